"""Breaking boards: small boards with one choice, on which each plan loses though a player with notes wins."""

from noteless.boards import Board
from noteless.kinds import crossing, laps, rise

FORK = "fork"


class Breaker:
    """A breaking board, the plays that are lost by the two plans, and the turns that win."""

    def __init__(self, kind, board, starts, losses, turns):
        self.kind = kind
        self.board = board
        self.fork = FORK
        self.starts = starts
        self.losses = losses
        self.turns = turns


def breaking(wish):
    """None if the wish needs no notes; otherwise a Breaker of the first of the three kinds to which it belongs."""
    crossed = crossing(wish)
    if crossed is not None:
        return _of_crossing(crossed)
    risen = rise(wish)
    if risen is not None:
        return _of_rise(risen)
    lapped = laps(wish)
    if lapped is not None:
        return _of_laps(lapped)
    return None


def _of_crossing(answer):
    """A Breaker for an answer of `crossing`."""
    first_road, second_road, first_end, second_end = answer
    board = Board()
    first_way = _add_end(board, "end0", first_end)
    second_way = _add_end(board, "end1", second_end)
    board.add(FORK, "wisher", [first_way, second_way])
    # The roads lead to different states, so at most one of them is empty, and the starts differ.
    first = _add_start(board, "start0", first_road)
    second = _add_start(board, "start1", second_road)
    return Breaker("crossing", board, [first, second], [second, first], [([0], []), ([1], [])])


def _of_rise(answer):
    """A Breaker for an answer of `rise`."""
    road, lap, end = answer
    board = Board()
    last_way = _add_end(board, "end", end)
    board.add(FORK, "wisher", [(lap, FORK), last_way])
    start = _add_start(board, "start", road)
    return Breaker("rise", board, [start], [start, start], [([0, 1], [])])


def _of_laps(answer):
    """A Breaker for an answer of `laps`."""
    road, first_lap, second_lap = answer
    board = Board()
    board.add(FORK, "wisher", [(first_lap, FORK), (second_lap, FORK)])
    start = _add_start(board, "start", road)
    return Breaker("laps", board, [start], [start, start], [([], [0, 1])])


def _add_end(board, place, lasso):
    """Add a place that spells the loop without end; returns the way to it that spells what is before."""
    stem, loop = lasso
    board.add(place, "foe", [(loop, place)])
    # The word of a way is not empty, but the stem may be; a round of the loop more changes no run.
    return stem + loop, place


def _add_start(board, place, road):
    """Add a place from which the road leads to the fork, and return its name; for an empty road that is the fork."""
    if road == "":
        return FORK
    board.add(place, "foe", [(road, FORK)])
    return place
