"""Who wins on a board: the places that are won, one plan for all of them, and the judge of plans.

All of it looks at pairs of a place and a state: a move leads from pair to pair, and it is marked if a marked
transition is taken while its word is read.
"""

from noteless.errors import NotesNeeded, UnknownLetter
from noteless.kinds import kind_of
from noteless.leftovers import classes, homes, ladder, least
from noteless.plans import Plan, picks_of


def won(wish, board):
    """The places from which the wisher can win, in the order of the board."""
    return _starts(wish, board, _won_pairs(_moves(wish, board), board))


def solve(wish, board):
    """One plan that wins from each place from which the wisher can win."""
    kind = kind_of(wish)
    if kind is not None:
        raise NotesNeeded(kind)
    moves = _moves(least(wish), board)
    ranks = _won_pairs(moves, board)
    home = homes(classes(wish))
    rungs = [home[group[0]] for group in ladder(wish)]
    # The wisher may play as if the wish were in the least class that wins at a place: the true class is never below it.
    choices = {}
    for place in board:
        if board.owner(place) == "wisher":
            choices[place] = _choice(moves, ranks, [(place, rung) for rung in rungs])
    return Plan(choices)


def judge(wish, board, plan):
    """None, or a place that can be won, and the moves and the cycle of a lost play from there that follows the plan."""
    moves = _moves(wish, board)
    picks = picks_of(board, plan)
    # A place of the foe is not in the picks, so there each index equals what is asked for.
    followed = {pair: [move for move in moves[pair] if picks.get(pair[0], move[0]) == move[0]] for pair in moves}
    # Only the foe has a choice here, so a pair has no rank exactly if an endless walk without a mark begins there.
    ranks = _ranks(followed, followed, board)
    for place in _starts(wish, board, _won_pairs(moves, board)):
        road = _road_out(followed, ranks, (place, wish.start))
        if road is not None:
            indexes, last = road
            entry, cycle = _quiet_walk(followed, ranks, last)
            return place, indexes + entry, cycle
    return None


def _starts(wish, board, pairs):
    """The places that stand in one of the pairs beside the start of the wish."""
    return [place for place in board if (place, wish.start) in pairs]


def _moves(wish, board):
    """For each pair the moves: the index of the way, the pair behind it, and whether the move is marked."""
    steps = {
        (state, letter): (wish[state, letter], wish.marked(state, letter))
        for state in range(wish.size)
        for letter in wish.letters
    }
    moves = {}
    for place in board:
        ways = board[place]
        _refuse_foreign(wish, ways)
        for state in range(wish.size):
            moves[place, state] = [_move(steps, state, index, way) for index, way in enumerate(ways)]
    return moves


def _refuse_foreign(wish, ways):
    """Raise UnknownLetter if a word of the ways contains a letter that is not one of the wish."""
    for way in ways:
        for letter in way[0]:
            if letter not in wish.letters:
                raise UnknownLetter(letter)


def _move(steps, state, index, way):
    """The move that a way makes from the state."""
    word, target = way
    after = state
    marked = False
    for letter in word:
        after, mark = steps[after, letter]
        marked = marked or mark
    return index, (target, after), marked


def _won_pairs(moves, board):
    """The pairs from which the wisher can win, with their ranks among each other."""
    # A marked move is of no use if it leads to a pair that is lost, so such pairs are left out until none is left.
    kept = moves
    ranks = _ranks(moves, kept, board)
    while len(ranks) < len(kept):
        kept = ranks
        ranks = _ranks(moves, kept, board)
    return ranks


def _ranks(moves, kept, board):
    """For each pair from which the wisher can force a marked move and stay in `kept`, the number of moves it takes."""
    # How many of its moves still have to be seen to be good: of the wisher's moves one is enough.
    missing = {pair: 1 if board.owner(pair[0]) == "wisher" else len(moves[pair]) for pair in kept}
    before = {pair: [] for pair in kept}
    # A pair stands here once for each of its moves that is seen to be good now.
    good = []
    for pair in kept:
        for _, target, marked in moves[pair]:
            if target in kept and marked:
                good.append(pair)
            elif target in kept:
                before[target].append(pair)
    ranks = {}
    rank = 0
    while good:
        rank += 1
        ranked = []
        for pair in good:
            missing[pair] -= 1
            if missing[pair] == 0:
                ranks[pair] = rank
                ranked.append(pair)
        good = [other for pair in ranked for other in before[pair]]
    return ranks


def _choice(moves, ranks, pairs):
    """The index of a winning move at the first of the pairs that is won; any index if none is."""
    for pair in pairs:
        if pair in ranks:
            for index, target, marked in moves[pair]:
                if target in ranks and (marked or ranks[target] < ranks[pair]):
                    return index
    return 0


def _road_out(moves, ranks, start):
    """The indexes of a shortest way from the pair `start` to a pair without a rank, and that pair; or None."""
    roads = {start: []}
    queue = [start]
    at = 0
    while at < len(queue):
        pair = queue[at]
        at += 1
        if pair not in ranks:
            return roads[pair], pair
        for index, target, _ in moves[pair]:
            if target not in roads:
                roads[target] = [*roads[pair], index]
                queue.append(target)
    return None


def _quiet_walk(moves, ranks, start):
    """An endless walk without a mark from the pair `start` on: the indexes before its cycle, and those of the cycle."""
    found = {}
    indexes = []
    pair = start
    while pair not in found:
        found[pair] = len(indexes)
        index, pair = _quiet_step(moves[pair], ranks)
        indexes.append(index)
    return indexes[:found[pair]], indexes[found[pair]:]


def _quiet_step(choices, ranks):
    """The first of the moves that is not marked and leads to a pair without a rank: its index and that pair."""
    quiet = [(index, target) for index, target, marked in choices if not marked and target not in ranks]
    return quiet[0]
