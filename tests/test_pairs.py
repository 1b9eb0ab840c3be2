"""Comparing wishes (point 10)."""

import random
import unittest
from itertools import product

from noteless.errors import LettersDiffer
from noteless.pairs import parting, same
from noteless.wishes import Wish


def always():
    return Wish("a", [[0]], [(0, "a")])


def never():
    return Wish("a", [[0]])


def often(letter):
    return Wish("ab", [[0, 0]], [(0, letter)])


def words(lengths):
    return ["".join(letters) for length in lengths for letters in product("ab", repeat=length)]


# Two wishes of two states have four pairs, so lassos of these lengths tell everything about them.
LASSOS = [(stem, loop) for stem in words(range(4)) for loop in words(range(1, 5))]


class ComparingTest(unittest.TestCase):
    def check(self, left, right, at_most, at_least):
        """Compare in both orders."""
        self.assertIs(left <= right, at_most)
        self.assertIs(right <= left, at_least)
        self.assertIs(left < right, at_most and not at_least)
        self.assertIs(right < left, at_least and not at_most)
        self.assertIs(same(left, right), at_most and at_least)
        self.assertIs(same(right, left), at_most and at_least)
        self.check_parting(left, right, at_most)
        self.check_parting(right, left, at_least)

    def check_parting(self, left, right, at_most):
        lasso = parting(left, right)
        if at_most:
            self.assertIsNone(lasso)
            return
        self.assertIsInstance(lasso, tuple)
        stem, loop = lasso
        self.assertLessEqual(len(stem), 64)
        self.assertIn(len(loop), range(1, 65))
        self.assertIn(lasso, left)
        self.assertNotIn(lasso, right)

    def test_always_and_never(self):
        self.check(never(), always(), True, False)
        self.assertEqual(parting(always(), never())[1].strip("a"), "")

    def test_a_wish_and_itself(self):
        wish = Wish("ab", [[1, 0], [1, 0]], [(1, "a")])
        self.check(wish, wish, True, True)
        self.check(never(), never(), True, True)

    def test_wishes_that_part_both_ways(self):
        self.check(often("a"), often("b"), False, False)
        self.check(often("a"), often("a") | often("b"), True, False)
        self.check(often("a") & often("b"), often("b"), True, False)

    def test_other_states_with_the_same_runs(self):
        late = Wish("ab", [[1, 0], [1, 1]], [(0, "a"), (1, "a")])
        self.check(often("a"), late, True, True)

    def test_the_start_counts_and_unreached_states_do_not(self):
        rows = [[0, 0], [1, 1]]
        marks = [(1, "a"), (1, "b")]
        self.check(Wish("ab", rows, marks), Wish("ab", rows), True, True)
        self.check(Wish("ab", rows, marks), Wish("ab", rows, marks, start=1), True, False)

    def test_marks_that_no_closed_walk_takes(self):
        once = Wish("a", [[1], [1]], [(0, "a")])
        self.check(once, never(), True, True)

    def test_different_letters(self):
        narrow, wide = never(), Wish("ab", [[0, 0]])
        compare = [lambda x, y: x <= y, lambda x, y: x < y, parting, same]
        for asked in compare:
            for left, right in [(narrow, wide), (wide, narrow), (always(), wide)]:
                with self.assertRaises(LettersDiffer):
                    asked(left, right)

    def test_the_wishes_stay_as_they_are(self):
        left, right = often("a"), often("b")
        texts = left.text(), right.text()
        self.check(left, right, False, False)
        self.assertEqual((left.text(), right.text()), texts)

    def test_long_lassos(self):
        seven = Wish("a", [[(state + 1) % 7] for state in range(7)], [(6, "a")])
        eight = Wish("a", [[(state + 1) % 8] for state in range(8)], [(7, "a")])
        self.check(seven, eight, True, True)
        line = Wish("ab", [[(state + 1) % 8, 0] for state in range(8)], [(7, "a")])
        self.check(line, line | Wish("ab", [[0, 0]], [(0, "b")]), True, False)
        hidden = Wish("ab", [[min(state + 1, 7), 0] for state in range(7)] + [[7, 7]], [(7, "a")])
        other = Wish("ab", [[(state + 1) % 8, state] for state in range(8)], [(0, "b")])
        self.check(hidden, other, False, False)

    def test_against_all_short_lassos(self):
        dice = random.Random(10)
        pairs = [(state, letter) for state in range(2) for letter in "ab"]
        for _ in range(120):
            left, right = [
                Wish("ab", [[dice.randrange(2) for _ in "ab"] for _ in range(2)], dice.sample(pairs, dice.randint(0, 3)))
                for _ in range(2)
            ]
            told = [(lasso in left, lasso in right) for lasso in LASSOS]
            self.check(left, right, (True, False) not in told, (False, True) not in told)

    def test_large_wishes(self):
        dice = random.Random(64)
        pairs = [(state, letter) for state in range(8) for letter in "ab"]
        for _ in range(60):
            left, right = [
                Wish("ab", [[dice.randrange(8) for _ in "ab"] for _ in range(8)], dice.sample(pairs, dice.randint(0, 9)))
                for _ in range(2)
            ]
            self.check_parting(left, right, left <= right)
            self.check_parting(right, left, right <= left)


if __name__ == "__main__":
    unittest.main()
