"""What the tests know of boards and plays by themselves: sweeps over the pairs of a place and a state."""

from itertools import product

import oracle
from noteless.boards import Board
from noteless.wishes import Wish


def drawn_board(dice, size, letters, longest=3, most=3):
    """A board with drawn owners and ways; its places have their names in a drawn order."""
    names = [f"p{number}" for number in range(size)]
    dice.shuffle(names)
    lines = []
    for name in names:
        ways = [drawn_word(dice, letters, longest) + ">" + dice.choice(names) for _ in range(dice.randint(1, most))]
        lines.append(" ".join([name, dice.choice(["wisher", "foe"]), *ways]))
    return Board.read("\n".join(lines))


def drawn_word(dice, letters, longest):
    return "".join(dice.choice(letters) for _ in range(dice.randint(1, longest)))


def drawn_ladder(dice):
    """A wish of two to five states that are likely to stand above each other, and that a letter seldom raises."""
    size, letters = dice.randint(2, 5), dice.choice(["ab", "ab", "abc"])
    columns, marks = [], []
    for letter in letters:
        if dice.random() < 0.7:
            column = sorted(dice.randint(0, state) for state in range(size))
            column = [min(target, state) for state, target in enumerate(column)]
        else:
            column = sorted(dice.randrange(size) for _ in range(size))
        columns.append(column)
        from_here = dice.randint(0, size)
        marks += [(state, letter) for state in range(from_here, size)]
    rows = [[column[state] for column in columns] for state in range(size)]
    return Wish(letters, rows, marks, start=dice.randrange(size))


def split(dice, wish, size):
    """The same wish with more states: some of them twice or more often, and no matter which of them is a target."""
    olds = list(range(wish.size)) + [dice.randrange(wish.size) for _ in range(size - wish.size)]
    news = {old: [new for new in range(len(olds)) if olds[new] == old] for old in olds}
    rows = [[dice.choice(news[wish[old, letter]]) for letter in wish.letters] for old in olds]
    marks = [(new, letter) for new, old in enumerate(olds) for letter in wish.letters if wish.marked(old, letter)]
    return Wish(wish.letters, rows, marks, start=dice.choice(news[wish.start]))


def moves_of(wish, board):
    """For each pair its moves in the order of the ways: the pair behind the move, and whether a mark is taken."""
    steps = oracle.table(wish)
    moves = {}
    for place, state in product(board, range(wish.size)):
        read = [(oracle.read(steps, state, word), target) for word, target in board[place]]
        moves[place, state] = [((target, after), mark) for (after, mark), target in read]
    return moves


def can_do(board, place, chances):
    """Whether the wisher gets one of the chances at the place: one is enough at the wisher's, the foe needs all."""
    return any(chances) if board.owner(place) == "wisher" else all(chances)


def lost_pairs(board, moves):
    """The pairs from which the wisher can't win: first all that can't force a mark, and then what the foe leads there."""
    lost = set()
    while True:
        forced = set()
        while True:
            more = {
                pair for pair in moves if pair not in lost | forced
                and can_do(board, pair[0], [to not in lost and (mark or to in forced) for to, mark in moves[pair]])
            }
            if not more:
                break
            forced |= more
        fresh = set(moves) - forced - lost
        if not fresh:
            return lost
        lost |= fresh
        while True:
            more = {
                pair for pair in set(moves) - lost
                if not can_do(board, pair[0], [to not in lost for to, _ in moves[pair]])
            }
            if not more:
                break
            lost |= more


def won_places(wish, board):
    lost = lost_pairs(board, moves_of(wish, board))
    return [place for place in board if (place, wish.start) not in lost]


def beaten_places(wish, board, choices):
    """The places from which a foe wins some play that makes the choices."""
    moves = moves_of(wish, board)
    for place, index in choices.items():
        if place in board and board.owner(place) == "wisher":
            for state in range(wish.size):
                moves[place, state] = [moves[place, state][index]]
    bad = beaten_pairs(moves)
    return [place for place in board if (place, wish.start) in bad]


def beaten_pairs(moves):
    """The pairs from which some walk comes to a closed walk without a mark."""
    everywhere = oracle.closure({pair: [to for to, _ in moves[pair]] for pair in moves})
    quietly = oracle.closure({pair: [to for to, mark in moves[pair] if not mark] for pair in moves})
    rounds = {pair for pair in moves if any(not mark and pair in quietly[to] for to, mark in moves[pair])}
    return {pair for pair in moves if pair in rounds or everywhere[pair] & rounds}


def plans_of(board):
    """All dicts with an index for each place of the wisher."""
    mine = [place for place in board if board.owner(place) == "wisher"]
    for indexes in product(*[range(len(board[place])) for place in mine]):
        yield dict(zip(mine, indexes))


def follow(board, start, indexes):
    """The moves of these indexes from the start, each as a tuple of a place, an index, a word and a target."""
    place, moves = start, []
    for index in indexes:
        if index not in range(len(board[place])):
            raise AssertionError(f"{index} is not the index of a way of {place}")
        moves.append((place, index, *board[place][index]))
        place = moves[-1][3]
    return moves


def spelled(moves):
    """The words of the moves, one after the other."""
    return "".join(word for _, _, word, _ in moves)
