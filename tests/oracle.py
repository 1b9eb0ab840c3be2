"""What the tests know of wishes by themselves: they walk through the transitions without the functions of the package."""

from collections import deque
from itertools import product

from noteless.wishes import Wish


def seen():
    return Wish("ab", [[1, 0], [1, 2], [2, 2]], [(2, "a"), (2, "b")])


def twice():
    return Wish("ab", [[1, 0], [1, 0]], [(1, "a")])


def alike(start=0):
    """Good are the runs whose first two letters are alike; behind one letter, those that go on with it."""
    return Wish("ab", [[1, 2], [3, 4], [4, 3], [3, 3], [4, 4]], [(3, "a"), (3, "b")], start=start)


def drawn(dice, size, letters, share):
    """A wish with drawn targets and start, in which a transition is marked with the chance `share`."""
    targets = [[dice.randrange(size) for _ in letters] for _ in range(size)]
    marks = [(state, letter) for state in range(size) for letter in letters if dice.random() < share]
    return Wish(letters, targets, marks, start=dice.randrange(size))


def drawn_of_all_sizes(dice, many):
    """Wishes of one to eight states and one to four letters, with few or many marks."""
    for _ in range(many):
        yield drawn(dice, dice.randint(1, 8), "abcd"[: dice.randint(1, 4)], dice.choice([0.1, 0.3, 0.5, 0.8]))


def table(wish):
    """The target and the mark of each transition."""
    return {(s, x): (wish[s, x], wish.marked(s, x)) for s in range(wish.size) for x in wish.letters}


def read(steps, state, word):
    """The state behind the word, and whether a mark is taken."""
    taken = False
    for letter in word:
        state, mark = steps[state, letter]
        taken = taken or mark
    return state, taken


def is_good(steps, state, lasso):
    """Whether the run of the lasso is good from the state: follow it until a round starts where one has started."""
    stem, loop = lasso
    state, _ = read(steps, state, stem)
    seen, marks = [], []
    while state not in seen:
        seen.append(state)
        state, mark = read(steps, state, loop)
        marks.append(mark)
    return any(marks[seen.index(state):])


def reachable(wish):
    """The reachable states, ascending."""
    steps, found = table(wish), {wish.start}
    while True:
        more = found | {steps[s, x][0] for s in found for x in wish.letters}
        if more == found:
            return sorted(found)
        found = more


def closure(edges):
    """From a dict of nodes and their followers: for each node all that can be reached in any number of steps."""
    reached = {}
    for node in edges:
        found, queue = {node}, deque([node])
        while queue:
            for after in edges[queue.popleft()]:
                if after not in found:
                    found.add(after)
                    queue.append(after)
        reached[node] = found
    return reached


def pair_order(first, second):
    """The pairs of states, of two wishes, of which the first has no good run that is bad for the second."""
    left, right = table(first), table(second)
    pairs = list(product(range(first.size), range(second.size)))
    edges = {(s, t): [(left[s, x][0], right[t, x][0]) for x in first.letters] for s, t in pairs}
    quiet = {
        (s, t): [(left[s, x][0], right[t, x][0]) for x in first.letters if not right[t, x][1]] for s, t in pairs
    }
    everywhere, quietly = closure(edges), closure(quiet)
    cores = {
        (s, t)
        for s, t in pairs
        for x in first.letters
        if left[s, x][1] and not right[t, x][1] and (s, t) in quietly[left[s, x][0], right[t, x][0]]
    }
    return {pair for pair in pairs if not everywhere[pair] & cores}


def order(wish):
    """The pairs of reachable states of which the first is at most the second."""
    states = reachable(wish)
    return {(s, t) for s, t in pair_order(wish, wish) if s in states and t in states}


def words(letters, lengths):
    """All words of these lengths."""
    return ["".join(word) for length in lengths for word in product(letters, repeat=length)]


def effects(wish):
    """What each non-empty word does: for each state the target, and whether a mark is taken; each effect once."""
    steps = table(wish)
    single = [tuple(steps[s, x] for s in range(wish.size)) for x in wish.letters]
    found, queue = set(single), deque(single)
    while queue:
        effect = queue.popleft()
        for letter in single:
            longer = tuple((letter[t][0], mark or letter[t][1]) for t, mark in effect)
            if longer not in found:
                found.add(longer)
                queue.append(longer)
    return found


def is_bad_forever(effect, state):
    """Whether a word with this effect, repeated forever, is bad from the state."""
    for _ in effect:
        state = effect[state][0]
    marks = []
    for _ in effect:
        state, mark = effect[state]
        marks.append(mark)
    return not any(marks)


def below(known):
    """The pairs of an order of which the first is below the second."""
    return {(s, t) for s, t in known if (t, s) not in known}


def quiet_edges(wish):
    """For each state the targets of its unmarked transitions."""
    steps = table(wish)
    return {s: [steps[s, x][0] for x in wish.letters if not steps[s, x][1]] for s in range(wish.size)}


def quiet_cycles(wish):
    """The unmarked transitions that lie on a closed walk of unmarked transitions."""
    steps, quietly = table(wish), closure(quiet_edges(wish))
    return {at for at, (target, mark) in steps.items() if not mark and at[0] in quietly[target]}
