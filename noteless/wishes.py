"""Wishes: machines with marked transitions that say which endless runs are good."""

from noteless.errors import InvalidLasso, InvalidText, InvalidWish, TooLarge, UnknownLetter, UnknownStep
from noteless.pairs import parting, refuse_other_letters

LETTER_SETS = ("a", "ab", "abc", "abcd")
DIGITS = "01234567"


class Wish:
    """A wish: a run is good if it takes marked transitions again and again, without end."""

    MOST_STATES = 8

    def __init__(self, letters, targets, marks=(), *, start=0):
        _refuse_shape(letters, targets, start)
        self.letters = letters
        self.size = len(targets)
        self.start = start
        self._targets = _target_table(letters, targets)
        self._marks = _mark_table(marks, self._targets)

    @classmethod
    def read(cls, text):
        """The wish with this text; raises InvalidText if there is none."""
        letters, targets, marks, start = _parts_of_text(text)
        return cls(letters, targets, marks, start=start)

    def text(self):
        """The text of the wish."""
        lines = [f"letters {self.letters}", f"start {self.start}"]
        for state in range(self.size):
            steps = [self._step_text(state, letter) for letter in self.letters]
            lines.append(" ".join([f"{state}:", *steps]))
        return "\n".join(lines)

    def _step_text(self, state, letter):
        mark = "*" if (state, letter) in self._marks else ""
        return f"{self._targets[state, letter]}{mark}"

    @property
    def marks(self):
        """The marked transitions in ascending order; may be assigned."""
        return [
            (state, letter)
            for state in range(self.size)
            for letter in self.letters
            if (state, letter) in self._marks
        ]

    @marks.setter
    def marks(self, value):
        self.remark(value)

    def remark(self, pairs):
        """Replace all marks."""
        self._marks = _mark_table(pairs, self._targets)

    def marked(self, state, letter):
        """Tell whether the transition is marked."""
        self._refuse_unknown(state, letter)
        return (state, letter) in self._marks

    def reach(self, word):
        """The state to which the word leads from the start."""
        for letter in word:
            if letter not in self.letters:
                raise UnknownLetter(letter)
        state = self.start
        for letter in word:
            state = self._targets[state, letter]
        return state

    def _refuse_unknown(self, state, letter):
        if (state, letter) not in self._targets:
            raise UnknownStep(f"no transition of state {state} by {letter!r}")

    def __getitem__(self, at):
        state, letter = at
        self._refuse_unknown(state, letter)
        return self._targets[state, letter]

    def __setitem__(self, at, worth):
        state, letter = at
        self._refuse_unknown(state, letter)
        if not 0 <= worth < self.size:
            raise InvalidWish(f"the target {worth} is not a state")
        self._targets[state, letter] = worth

    def __rshift__(self, other):
        start = self.reach(other)
        targets = [[self._targets[state, letter] for letter in self.letters] for state in range(self.size)]
        return Wish(self.letters, targets, self.marks, start=start)

    def __contains__(self, x):
        stem, loop = x
        if loop == "":
            raise InvalidLasso("the loop is empty")
        # After as many rounds as there are states, the states in which a round starts repeat.
        # So as many further rounds take every transition that is taken without end.
        rounds = loop * self.size
        state = self.reach(stem + rounds)
        for letter in rounds:
            if (state, letter) in self._marks:
                return True
            state = self._targets[state, letter]
        return False

    def __or__(self, other):
        return _joined(self, other, False)

    def __and__(self, other):
        return _joined(self, other, True)

    def __ior__(self, other):
        joined = self | other
        self.size = joined.size
        self.start = joined.start
        self._targets = joined._targets
        self._marks = joined._marks
        return self

    def __le__(self, other):
        return parting(self, other) is None

    def __lt__(self, other):
        return parting(self, other) is None and parting(other, self) is not None


def either(first, *others):
    """A wish for which a run is good if it is good for at least one of the wishes."""
    # Reading no letter gives a copy, so the answer is new for one wish, too.
    wish = first >> ""
    for other in others:
        wish = wish | other
    return wish


def both(first, *others):
    """A wish for which a run is good if it is good for all of the wishes."""
    wish = first >> ""
    for other in others:
        wish = wish & other
    return wish


def _refuse_shape(letters, targets, start):
    """Raise InvalidWish unless letters, targets and start fit together."""
    if letters not in LETTER_SETS:
        raise InvalidWish(f"the letters {letters!r} are not accepted")
    size = len(targets)
    if not 1 <= size <= Wish.MOST_STATES:
        raise InvalidWish(f"{size} states")
    if not 0 <= start < size:
        raise InvalidWish(f"the start {start} is not a state")
    for row in targets:
        if len(row) != len(letters):
            raise InvalidWish(f"{len(row)} targets for {len(letters)} letters")
        for target in row:
            if not 0 <= target < size:
                raise InvalidWish(f"the target {target} is not a state")


def _target_table(letters, targets):
    """The target of each pair of a state and a letter."""
    return {
        (state, letter): target
        for state, row in enumerate(targets)
        for letter, target in zip(letters, row)
    }


def _mark_table(pairs, table):
    """A dict with the pairs as keys; raises InvalidWish if the table of targets lacks one of them."""
    for state, letter in pairs:
        if (state, letter) not in table:
            raise InvalidWish(f"no transition of state {state} by {letter!r} to mark")
    return {(state, letter): True for state, letter in pairs}


def _joined(left, right, sided):
    """The wish `left & right` if sided, else `left | right`."""
    refuse_other_letters(left, right)
    start = (left.start, right.start, 0)
    found = {start: 0}
    queue = [start]
    targets = []
    marks = []
    while len(targets) < len(queue):
        state = len(targets)
        row = []
        for letter in left.letters:
            after, mark = _joint_step(left, right, queue[state], letter, sided)
            if after not in found:
                found[after] = len(queue)
                queue.append(after)
            row.append(found[after])
            if mark:
                marks.append((state, letter))
        targets.append(row)
        if len(queue) > Wish.MOST_STATES:
            raise TooLarge(f"more than {Wish.MOST_STATES} states")
    return Wish(left.letters, targets, marks)


def _joint_step(left, right, joint, letter, sided):
    """The target of a pair of states with a side, and whether the transition is marked."""
    first, second, side = joint
    first_after = left[first, letter]
    second_after = right[second, letter]
    left_mark = left.marked(first, letter)
    right_mark = right.marked(second, letter)
    if not sided:
        return (first_after, second_after, 0), left_mark or right_mark
    # Side 0 waits for a mark of left, side 1 for one of right, so there is a mark for each time that both had one.
    if side == 0:
        return (first_after, second_after, 1 if left_mark else 0), False
    return (first_after, second_after, 0 if right_mark else 1), right_mark


def _parts_of_text(text):
    """The letters, targets, marks and start that the text of a wish names."""
    lines = text.split("\n")
    letters = _behind("letters ", lines[0])
    if letters not in LETTER_SETS:
        raise InvalidText(1)
    size = len(lines) - 2
    start = _behind("start ", lines[1]) if size >= 0 else ""
    if not _names_state(start, size):
        raise InvalidText(2)
    targets = []
    marks = []
    for state, line in enumerate(lines[2:]):
        words = line.split(" ")
        if not _is_row(words, state, letters, size):
            raise InvalidText(state + 3)
        steps = words[1:]
        targets.append([int(step[0]) for step in steps])
        marks.extend([(state, letter) for letter, step in zip(letters, steps) if step.endswith("*")])
    return letters, targets, marks, int(start)


def _behind(opening, line):
    """The rest of a line that begins with the opening, else the empty string, which no line may have there."""
    return line.removeprefix(opening) if line.startswith(opening) else ""


def _is_row(words, state, letters, size):
    """Tell whether the words of a line name the state and one step for each letter."""
    if state >= Wish.MOST_STATES or words[0] != f"{state}:" or len(words) != len(letters) + 1:
        return False
    return all([_names_state(step.removesuffix("*"), size) for step in words[1:]])


def _names_state(word, size):
    """Tell whether the word is the single digit of a state."""
    return len(word) == 1 and word in DIGITS and int(word) < size
