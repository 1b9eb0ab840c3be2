"""Breaking boards (point 23)."""

import random
import unittest

import oracle
import sweeps
from noteless.boards import Board
from noteless.breakers import Breaker, breaking
from noteless.kinds import crossing, laps, needs_notes, rise
from noteless.plans import Plan, Turns, play
from noteless.wishes import Wish
from oracle import alike, seen, twice

ATTRIBUTES = ("kind", "board", "fork", "starts", "losses", "turns")


def first_kind(wish):
    """The name of the first of the three functions that does not return None."""
    for name, find in (("crossing", crossing), ("rise", rise), ("laps", laps)):
        if find(wish) is not None:
            return name
    return None


def round_of(wish, board, start, pick):
    """The moves of a play until a move is the same as before in everything that counts: those before it and the round.

    pick(many) is a pair: the index at the fork if the play has come there `many` times before, and what is the same
    each time that the rest of the picks is the same.
    """
    steps = oracle.table(wish)
    place, state, many = start, wish.start, 0
    moves, found = [], []
    while (place, state, pick(many)[1]) not in found:
        found.append((place, state, pick(many)[1]))
        index = 0
        if board.owner(place) == "wisher":
            index = pick(many)[0]
            many += 1
        word, target = board[place][index]
        moves.append((place, index, word, target))
        place, (state, _) = target, oracle.read(steps, state, word)
    at = found.index((place, state, pick(many)[1]))
    return moves[:at], moves[at:]


class BreakersTest(unittest.TestCase):
    def check(self, wish):
        """Check all that is said of the Breaker of a wish; returns its kind."""
        text = wish.text()
        kind = first_kind(wish)
        breaker = breaking(wish)
        self.assertEqual(wish.text(), text)
        self.assertIs(breaker is not None, needs_notes(wish))
        if kind is None:
            self.assertIsNone(breaker)
            return None
        self.assertIsInstance(breaker, Breaker)
        self.assertEqual(breaker.kind, kind)
        self.check_board(wish, breaker)
        self.check_names(breaker)
        self.check_losses(wish, breaker)
        self.check_turns(wish, breaker)
        {"crossing": self.check_crossing, "rise": self.check_rise, "laps": self.check_laps}[kind](breaker)
        return kind

    def check_board(self, wish, breaker):
        board = breaker.board
        self.assertIsInstance(board, Board)
        self.assertEqual(Board.read(board.text()).text(), board.text())
        self.assertEqual([place for place in board if board.owner(place) == "wisher"], [breaker.fork])
        for place in board:
            self.assertEqual(len(board[place]), 2 if place == breaker.fork else 1)
            for word, _ in board[place]:
                self.assertLessEqual(set(word), set(wish.letters))

    def check_names(self, breaker):
        for names in (breaker.starts, breaker.losses):
            self.assertIsInstance(names, list)
            self.assertLessEqual(set(names), set(breaker.board))
        self.assertEqual(len(breaker.starts), 2 if breaker.kind == "crossing" else 1)
        self.assertEqual(len(set(breaker.starts)), len(breaker.starts))
        self.assertEqual(len(breaker.losses), 2)
        self.assertLessEqual(set(breaker.losses), set(breaker.starts))

    def check_losses(self, wish, breaker):
        places = sweeps.won_places(wish, breaker.board)
        self.assertLessEqual(set(breaker.starts), set(places))
        for index in (0, 1):
            self.assertIn(breaker.losses[index], sweeps.beaten_places(wish, breaker.board, {breaker.fork: index}))
            self.assertFalse(self.is_won(wish, breaker.board, breaker.losses[index], lambda many, index=index: (index, 0)))

    def is_won(self, wish, board, start, pick):
        moves, cycle = round_of(wish, board, start, pick)
        return oracle.is_good(oracle.table(wish), wish.start, (sweeps.spelled(moves), sweeps.spelled(cycle)))

    def check_turns(self, wish, breaker):
        self.assertIsInstance(breaker.turns, list)
        self.assertEqual(len(breaker.turns), len(breaker.starts))
        others = Plan({place: 0 for place in breaker.board if place != breaker.fork})
        for start, pair in zip(breaker.starts, breaker.turns):
            self.assertIsInstance(pair, tuple)
            first, again = pair
            self.assertIsInstance(first, list)
            self.assertIsInstance(again, list)

            def pick(many):
                if many < len(first):
                    return first[many], many
                at = (many - len(first)) % len(again) if again else 0
                return again[at] if again else None, len(first) + at

            self.assertTrue(self.is_won(wish, breaker.board, start, pick))
            moves, cycle = round_of(wish, breaker.board, start, pick)
            many = len(moves) + 3 * len(cycle)
            played = list(play(breaker.board, start, Turns(first, again), others, many))
            self.assertEqual(played, moves + 3 * cycle)
            if not again:
                self.assertNotIn(breaker.fork, [move[0] for move in cycle])
                self.assertLessEqual([move[0] for move in moves].count(breaker.fork), len(first))

    def check_crossing(self, breaker):
        first, second = breaker.starts
        self.assertEqual(breaker.losses, [second, first])
        self.assertEqual(breaker.turns, [([0], []), ([1], [])])
        for index in (0, 1):
            self.check_no_way_back(breaker, index)

    def check_rise(self, breaker):
        self.assertEqual(breaker.losses, breaker.starts * 2)
        self.assertEqual(breaker.turns, [([0, 1], [])])
        self.assertEqual(breaker.board[breaker.fork][0][1], breaker.fork)
        self.check_no_way_back(breaker, 1)

    def check_laps(self, breaker):
        self.assertEqual(breaker.losses, breaker.starts * 2)
        self.assertEqual(breaker.turns, [([], [0, 1])])
        self.assertEqual([target for _, target in breaker.board[breaker.fork]], [breaker.fork, breaker.fork])

    def check_no_way_back(self, breaker, index):
        place = breaker.board[breaker.fork][index][1]
        for _ in breaker.board:
            self.assertNotEqual(place, breaker.fork)
            place = breaker.board[place][0][1]

    def test_the_examples(self):
        self.assertEqual([self.check(seen()), self.check(twice()), self.check(alike())], ["rise", "laps", "crossing"])

    def test_wishes_that_start_elsewhere(self):
        for start in range(5):
            self.assertEqual(self.check(alike(start)), "crossing" if start == 0 else None)
        later = Wish("abc", [[0, 0, 1], [2, 1, 1], [2, 3, 1], [3, 3, 3]], [(3, "a"), (3, "b"), (3, "c")])
        self.assertEqual([self.check(later >> word) for word in ("", "c", "ca", "cab")], ["rise", "rise", "rise", None])

    def test_a_crossing_with_the_start_itself(self):
        # State 0 wishes for an a next, state 1 for a b next; no letter leads to state 0.
        wish = Wish("abc", [[2, 3, 1], [3, 2, 1], [2, 2, 2], [3, 3, 3]], [(2, letter) for letter in "abc"])
        self.assertEqual(self.check(wish), "crossing")
        self.assertIn(breaking(wish).fork, breaking(wish).starts)
        self.assertIsNone(self.check(wish >> "c"))

    def test_a_wish_of_two_kinds(self):
        wish = Wish.read("letters ab\nstart 1\n0: 1 0\n1: 3 0*\n2: 1 0*\n3: 2 3")
        self.assertIsNotNone(laps(wish))
        self.assertEqual(self.check(wish), "crossing")

    def test_one_letter_needs_no_notes(self):
        dice = random.Random(1)
        for size in range(1, 9):
            for _ in range(10):
                self.assertIsNone(self.check(oracle.drawn(dice, size, "a", 0.4)))

    def test_drawn_wishes(self):
        counts = {"crossing": 0, "rise": 0, "laps": 0, None: 0}
        dice = random.Random(23)
        for wish in oracle.drawn_of_all_sizes(dice, 700):
            counts[self.check(wish)] += 1
        for _ in range(700):
            counts[self.check(oracle.drawn(dice, dice.randint(2, 4), "ab", dice.choice([0.1, 0.2, 0.4])))] += 1
            counts[self.check(sweeps.drawn_ladder(dice))] += 1
        self.assertLess(20, min(counts.values()), counts)

    def test_drawn_rises_and_laps_behind_a_road(self):
        dice = random.Random(230)
        counts = {"rise": 0, "laps": 0}
        while min(counts.values()) < 15:
            wish = oracle.drawn(dice, dice.randint(3, 7), "ab", dice.choice([0.1, 0.3]))
            if first_kind(wish) in counts and breaking(wish).starts != [breaking(wish).fork]:
                counts[self.check(wish)] += 1

    def test_long_laps(self):
        for size in range(1, 8):
            rows = [[min(state + 1, size), 0] for state in range(size + 1)]
            for letter in "ab":
                self.assertEqual(self.check(Wish("ab", rows, [(size, letter)])), "laps")

    def test_attributes_are_plain(self):
        for wish in (alike(), seen(), twice()):
            breaker = breaking(wish)
            for name in ATTRIBUTES:
                self.assertIn(name, vars(breaker))
                self.assertIs(getattr(breaker, name), getattr(breaker, name))

    def test_a_change_shows_in_this_breaker_alone(self):
        for wish in (alike(), seen(), twice()):
            text = wish.text()
            first, second = breaking(wish), breaking(wish)
            starts, losses, turns = list(first.starts), list(first.losses), repr(first.turns)
            board = first.board.text()
            first.board.add("more", "foe", [("a", "more")])
            first.board[first.fork] = [("a", first.fork)]
            self.assertIn("more", first.board)
            self.assertEqual((first.starts, first.losses), (starts, losses))
            first.starts.append("more")
            self.assertEqual(first.starts, [*starts, "more"])
            self.assertEqual(first.losses, losses)
            first.losses.reverse()
            first.losses.append("x")
            for pair in first.turns:
                pair[0].append(5)
                pair[1].clear()
            first.turns.clear()
            self.assertEqual(first.turns, [])
            for other in (second, breaking(wish)):
                self.assertEqual((other.starts, other.losses, repr(other.turns)), (starts, losses, turns))
                self.assertEqual(other.board.text(), board)
            self.check(wish)
            self.assertEqual(wish.text(), text)

    def test_lists_of_the_turns_are_lists_of_their_own(self):
        first, second = breaking(alike()).turns
        first[1].append(3)
        self.assertEqual((first, second), (([0], [3]), ([1], [])))

    def test_behind_changes_of_the_wish(self):
        wish = seen()
        self.assertEqual(self.check(wish), "rise")
        breaker = breaking(wish)
        board = breaker.board.text()
        wish[1, "b"] = 1
        self.assertIsNone(self.check(wish))
        wish[1, "b"] = 0
        wish.marks = [(1, "a")]
        self.assertEqual(self.check(wish), "laps")
        self.assertEqual((breaker.kind, breaker.board.text()), ("rise", board))
        wish |= Wish("ab", [[0, 0]], [(0, "a")])
        self.assertIsNone(self.check(wish))


if __name__ == "__main__":
    unittest.main()
