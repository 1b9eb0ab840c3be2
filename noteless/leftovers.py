"""The leftovers of a wish: the classes of its equal states, their order, and the least machine."""

from noteless.pairs import winning_loop, words_from
from noteless.wishes import Wish


def classes(wish):
    """The classes of equal states among the reachable ones, ordered by their first states."""
    return _grouped(wish, order_of(wish))


def ladder(wish):
    """The classes from the least to the greatest, or None if two of them can't be compared."""
    order = order_of(wish)
    groups = _grouped(wish, order)
    rungs = [None] * len(groups)
    for group in groups:
        lower = [other for other in groups if (other[0], group[0]) in order]
        upper = [other for other in groups if (group[0], other[0]) in order]
        # Each other class counts at most once here, and the class itself counts twice.
        if len(lower) + len(upper) <= len(groups):
            return None
        rungs[len(lower) - 1] = group
    return rungs


def least(wish):
    """The least machine of the wish: its states are the classes, and it has as many marks as they allow."""
    groups = classes(wish)
    home = homes(groups)
    targets = [[home[wish[group[0], letter]] for letter in wish.letters] for group in groups]
    marks = [
        (number, letter)
        for number, group in enumerate(groups)
        for letter in wish.letters
        if shortest_return(wish, group, letter) is None
    ]
    return Wish(wish.letters, targets, marks, start=home[wish.start])


def order_of(wish):
    """A dict with a key for each pair of reachable states of which the first is at most the second."""
    states = list(roads_from(wish, wish.start, False))
    pairs = [(low, high) for low in states for high in states]
    parted = {pair: True for pair in pairs if winning_loop(wish, wish, pair) is not None}
    known = 0
    while known < len(parted):
        known = len(parted)
        for pair in pairs:
            if pair not in parted and any([_moved(wish, pair, letter) in parted for letter in wish.letters]):
                parted[pair] = True
    return {pair: True for pair in pairs if pair not in parted}


def homes(groups):
    """For each state the index of its class."""
    return {state: number for number, group in enumerate(groups) for state in group}


def roads_from(wish, start, quiet):
    """For each state that can be reached from the state `start` a shortest word; if quiet, no mark is taken."""
    # Two tokens that start on the same state stay together.
    both_roads = words_from(wish, wish, (start, start), quiet)
    return {pair[0]: word for pair, word in both_roads.items()}


def shortest_return(wish, group, letter):
    """A shortest word that leads back to some state of the group behind the letter, no mark being taken; or None."""
    returns = [_quiet_return(wish, state, letter) for state in group]
    words = [word for word in returns if word is not None]
    return min(words, key=len) if words else None


def _quiet_return(wish, state, letter):
    """A shortest word that leads back to the state behind the letter, no mark being taken; or None."""
    if wish.marked(state, letter):
        return None
    return roads_from(wish, wish[state, letter], True).get(state)


def _grouped(wish, order):
    """The classes of the states between which the order goes both ways."""
    # Just the reachable states are in the order, each of them beside itself.
    states = [state for state in range(wish.size) if (state, state) in order]
    groups = [[other for other in states if (state, other) in order and (other, state) in order] for state in states]
    return [group for state, group in zip(states, groups) if group[0] == state]


def _moved(wish, pair, letter):
    """The pair of states to which a letter leads."""
    return wish[pair[0], letter], wish[pair[1], letter]
