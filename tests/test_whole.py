"""The whole program: solve, judge, won, needs_notes and breaking agree with each other (points 1, 11, 12 and 20 to 23)."""

import random
import unittest

import oracle
import sweeps
from noteless.boards import Board
from noteless.breakers import breaking
from noteless.errors import NotelessError, NotesNeeded
from noteless.games import judge, solve, won
from noteless.kinds import needs_notes
from noteless.leftovers import classes, ladder, least
from noteless.pairs import same
from noteless.plans import Plan, Turns, kept_to, play
from noteless.wishes import Wish


def drawn_wishes(dice, many):
    """Wishes of several kinds, of one to eight states."""
    for _ in range(many):
        wish = sweeps.drawn_ladder(dice) if dice.random() < 0.5 else oracle.drawn(
            dice, dice.randint(1, 6), "abcd"[: dice.randint(1, 3)], dice.choice([0.05, 0.1, 0.3, 0.5]))
        yield sweeps.split(dice, wish, dice.randint(wish.size, 8)) if dice.random() < 0.5 else wish


class WholeTest(unittest.TestCase):
    def test_a_plan_for_each_board_or_a_breaking_board(self):
        dice = random.Random(231)
        counts = {True: 0, False: 0}
        for wish in drawn_wishes(dice, 600):
            counts[needs_notes(wish)] += 1
            if needs_notes(wish):
                self.check_breaker(wish)
            else:
                self.assertIsNone(breaking(wish))
                self.assertIsNotNone(ladder(wish))
                self.assertTrue(same(wish, least(wish)))
                self.check_plan(wish, sweeps.drawn_board(dice, dice.randint(1, 6), wish.letters, 3, 3))
        self.assertLess(50, min(counts.values()))

    def check_plan(self, wish, board):
        """A wish that needs no notes: the plan wins from all places that are won."""
        texts = wish.text(), board.text()
        plan = solve(wish, board)
        self.assertIsNone(judge(wish, board, plan))
        kept = kept_to(board, plan)
        self.assertEqual(won(wish, kept), won(wish, board))
        self.assertEqual(won(least(wish), board), won(wish, board))
        # On the board that is kept to the plan there is just one plan.
        self.assertEqual(set(solve(wish, kept).choices.values()) | {0}, {0})
        self.assertEqual((wish.text(), board.text()), texts)

    def check_breaker(self, wish):
        """A wish that needs notes: on its board neither plan wins from all places that are won."""
        breaker = breaking(wish)
        board, fork = breaker.board, breaker.fork
        with self.assertRaises(NotesNeeded) as caught:
            solve(wish, board)
        self.assertEqual(caught.exception.kind, breaker.kind)
        self.assertLessEqual(set(breaker.starts), set(won(wish, board)))
        for index in (0, 1):
            plan = Plan({fork: index})
            start, moves, cycle = judge(wish, board, plan)
            left = won(wish, kept_to(board, plan))
            self.assertNotIn(breaker.losses[index], left)
            self.assertNotIn(start, left)
            self.assertIn(start, won(wish, board))
            played = list(play(board, start, plan, Plan({place: 0 for place in board}), len(moves) + len(cycle)))
            self.assertEqual([move[1] for move in played], moves + cycle)
            loop = sweeps.spelled(played[len(moves):])
            self.assertFalse((sweeps.spelled(played[:len(moves)]), loop) in wish)
        for start, (first, again) in zip(breaker.starts, breaker.turns):
            moves = list(play(board, start, Turns(first, again), Plan({place: 0 for place in board}), 100))
            self.assertEqual(len(moves), 100)

    def test_judge_and_boards_that_are_kept_to_a_plan(self):
        dice = random.Random(232)
        counts = {True: 0, False: 0}
        for wish in drawn_wishes(dice, 500):
            board = sweeps.drawn_board(dice, dice.randint(1, 6), wish.letters, 2, 4)
            plan = Plan({place: dice.randrange(len(board[place])) for place in board})
            places, left = won(wish, board), won(wish, kept_to(board, plan))
            answer = judge(wish, board, plan)
            self.assertLessEqual(set(left), set(places))
            self.assertIs(answer is None, left == places)
            counts[answer is None] += 1
            if answer is not None:
                self.assertIn(answer[0], set(places) - set(left))
        self.assertLess(20, min(counts.values()))

    def test_judge_and_play(self):
        dice = random.Random(233)
        lost = 0
        while lost < 60:
            wish = sweeps.drawn_ladder(dice)
            board = sweeps.drawn_board(dice, dice.randint(2, 6), wish.letters, 2, 4)
            plan = Plan({place: dice.randrange(len(board[place])) for place in board if board.owner(place) == "wisher"})
            answer = judge(wish, board, plan)
            if answer is not None:
                lost += 1
                start, moves, cycle = answer
                expected = sweeps.follow(board, start, moves + cycle * 2)
                at = [index for place, index, _, _ in expected if board.owner(place) == "foe"]
                self.assertEqual(list(play(board, start, plan, Turns(at, []), len(expected))), expected)

    def test_other_boards_of_one_choice(self):
        dice = random.Random(234)
        boards = [breaking(wish).board for wish in drawn_wishes(dice, 300) if needs_notes(wish) and wish.letters == "ab"]
        self.assertLess(20, len(boards))
        for wish in drawn_wishes(dice, 60):
            if wish.letters == "ab" and not needs_notes(wish):
                for board in boards[:20]:
                    self.check_plan(wish, board)

    def test_wishes_with_the_same_good_runs(self):
        dice = random.Random(235)
        for wish in drawn_wishes(dice, 200):
            other = sweeps.split(dice, wish, 8)
            self.assertTrue(same(wish, other))
            self.assertIs(needs_notes(wish), needs_notes(other))
            board = sweeps.drawn_board(dice, dice.randint(1, 5), wish.letters, 3, 3)
            self.assertEqual(won(wish, board), won(other, board))
            if needs_notes(wish):
                self.assertEqual(breaking(wish).kind, breaking(other).kind)
            else:
                self.assertEqual(len(classes(wish)), len(classes(other)))
                self.assertIsNone(judge(other, board, solve(wish, board)))
                self.assertIsNone(judge(wish, board, solve(other, board)))

    def test_joined_wishes(self):
        dice = random.Random(236)
        often = [Wish("ab", [[0, 0]], [(0, letter)]) for letter in "ab"]
        one, two = often[0] | often[1], often[0] & often[1]
        self.assertFalse(needs_notes(one))
        self.assertEqual(breaking(two).kind, "laps")
        for _ in range(50):
            board = sweeps.drawn_board(dice, dice.randint(1, 5), "ab", 3, 3)
            self.check_plan(one, board)
            self.assertEqual(won(one, board), list(board))
            self.assertLessEqual(set(won(two, board)), set(won(often[0], board)) & set(won(often[1], board)))

    def test_nothing_that_is_passed_changes(self):
        wish, board = oracle.seen(), Board.read("x wisher a>x b>y\ny foe ab>x")
        plan = Plan({"x": 1, "z": 5})
        texts = wish.text(), board.text()
        for asked in (
            lambda: won(wish, board), lambda: judge(wish, board, plan), lambda: solve(wish, board), lambda: breaking(wish),
            lambda: kept_to(board, plan), lambda: list(play(board, "x", plan, Plan({"y": 0}), 5)),
            lambda: list(play(board, "x", plan, plan, 5)), lambda: kept_to(board, Plan({})), lambda: judge(wish, board, Plan({})),
        ):
            for _ in range(2):
                try:
                    asked()
                except NotelessError:
                    pass
                self.assertEqual((wish.text(), board.text(), plan.choices), (*texts, {"x": 1, "z": 5}))


if __name__ == "__main__":
    unittest.main()
