"""The three kinds of wishes that need notes, each with words that show it."""

from noteless.leftovers import classes, homes, least, order_of, roads_from, shortest_return
from noteless.pairs import parting_from, words_from


def crossing(wish):
    """None, or two roads and two lassos: each road is good before its own lasso and bad before the other one."""
    order = order_of(wish)
    roads = roads_from(wish, wish.start, False)
    for first, first_road in roads.items():
        for second, second_road in roads.items():
            if (first, second) not in order and (second, first) not in order:
                first_end = parting_from(wish, wish, (first, second))
                second_end = parting_from(wish, wish, (second, first))
                return first_road, second_road, first_end, second_end
    return None


def rise(wish):
    """None, or a road, a lap that leads to a greater state but is bad forever, and a lasso that is good only there."""
    order = order_of(wish)
    roads = roads_from(wish, wish.start, False)
    for low, road in roads.items():
        for high in roads:
            if (low, high) in order and (high, low) not in order:
                lap = words_from(wish, wish, (low, high), True).get((high, high))
                if lap is not None:
                    return road, lap, parting_from(wish, wish, (high, low))
    return None


def laps(wish):
    """None, or a road and two laps, each of them bad forever, but good in turn."""
    groups = classes(wish)
    home = homes(groups)
    walk = _shortest_walk(wish, least(wish), home)
    if walk is None:
        return None
    start, letters = walk
    stops = _stops(wish, start, letters)
    returns = [shortest_return(wish, groups[home[stop]], letter) for stop, letter in zip(stops, letters)]
    roads = roads_from(wish, wish.start, False)
    for stop, first, second in _lap_pairs(stops, letters, returns):
        if ("", first + second) in (wish >> roads[stop]):
            return roads[stop], first, second
    return None


def needs_notes(wish):
    """Tell whether the wish is of one of the three kinds."""
    return kind_of(wish) is not None


def kind_of(wish):
    """The name of the first of the three kinds to which the wish belongs, or None."""
    if crossing(wish) is not None:
        return "crossing"
    if rise(wish) is not None:
        return "rise"
    if laps(wish) is not None:
        return "laps"
    return None


def _shortest_walk(wish, small, home):
    """A state and the letters of a shortest closed walk from there that takes a mark in the wish but none in `small`.

    It is None if there is no such walk; then the same runs are good for both.
    """
    walks = {}
    for state in home:
        for letter in wish.letters:
            if wish.marked(state, letter) and not small.marked(home[state], letter):
                target = wish[state, letter]
                back = words_from(wish, small, (target, home[target]), True).get((state, home[state]))
                if back is not None:
                    walks[letter + back] = state
    if not walks:
        return None
    letters = min(list(walks), key=len)
    return walks[letters], letters


def _stops(wish, start, letters):
    """The states in which the letters are read, from the state `start` on."""
    stops = [start]
    for letter in letters:
        stops.append(wish[stops[-1], letter])
    return stops[:-1]


def _lap_pairs(stops, letters, returns):
    """The pairs of laps to be tried, in this order, each with a state at whose class the laps start and end."""
    # Either lap is one of the bad closed walks, or it is an earlier pair in turn, read from another place on.
    # So at the first pair that is good in turn, each of its laps is bad by itself.
    choices = []
    for many in range(1, len(letters)):
        behind = "".join(returns[:many][::-1]) + letters[:many]
        choices.append((stops[many], letters[many] + returns[many], behind))
    back = "".join(returns[::-1])
    # Eight rounds of the letters from a class of at most eight states come to one of them again, taking a mark.
    # So 4 + 4 rounds, which the last pair has side by side, are enough.
    for times in (1, 2, 4):
        choices.append((stops[0], letters * times + back * times, back * times + letters * times))
    return choices
