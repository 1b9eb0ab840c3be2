"""Plans and turns, which pick ways for a player, and the plays and boards that follow them."""

from noteless.errors import InvalidMove, InvalidPlan, UnknownPlace


class Plan:
    """A plan: one index for each of some places."""

    def __init__(self, choices):
        self._choices = dict(choices)

    def __call__(self, place):
        if place not in self._choices:
            raise InvalidPlan(place)
        return self._choices[place]

    @property
    def choices(self):
        """A new dict with the index for each place."""
        return dict(self._choices)


class Turns:
    """A player with notes: picks the indexes of `first` once, and then those of `again` over and over."""

    def __init__(self, first, again):
        self._first = list(first)
        self._again = list(again)
        self._calls = 0

    def __call__(self, place):
        at = self._calls
        if at >= len(self._first) and not self._again:
            raise InvalidMove(place)
        self._calls = at + 1
        if at < len(self._first):
            return self._first[at]
        return self._again[(at - len(self._first)) % len(self._again)]


def play(board, start, wisher, foe, count):
    """Yield `count` moves of the play from `start`, each as a tuple of a place, an index, a word and a target."""
    if start not in board:
        raise UnknownPlace(start)
    place = start
    for _ in range(count):
        player = wisher if board.owner(place) == "wisher" else foe
        index = player(place)
        ways = board[place]
        if not 0 <= index < len(ways):
            raise InvalidMove(place)
        word, target = ways[index]
        yield place, index, word, target
        place = target


def kept_to(board, plan):
    """A board with the same places, on which each place of the wisher has only the way of the plan."""
    kept = board.copy()
    for place, index in picks_of(board, plan).items():
        kept[place] = [board[place][index]]
    return kept


def picks_of(board, plan):
    """The index of the plan for each place of the wisher; raises InvalidPlan if the plan does not fit the board."""
    picks = {}
    for place in board:
        if board.owner(place) == "wisher":
            index = plan(place)
            if not 0 <= index < len(board[place]):
                raise InvalidPlan(place)
            picks[place] = index
    return picks
