"""Wishes: making them (point 5), and reading and changing their transitions and marks (point 7)."""

import unittest

from noteless.errors import InvalidWish, UnknownStep
from noteless.wishes import Wish


def twice():
    return Wish("ab", [[1, 0], [1, 0]], [(1, "a")])


class MakingTest(unittest.TestCase):
    def refused(self, *args, **more):
        with self.assertRaises(InvalidWish):
            Wish(*args, **more)

    def test_without_marks_and_start(self):
        wish = Wish("ab", [[1, 0], [1, 0]])
        self.assertEqual((wish.letters, wish.size, wish.start, wish.marks), ("ab", 2, 0, []))

    def test_with_marks_and_start(self):
        wish = Wish("abc", [[0, 1, 0], [1, 1, 0]], [(1, "c"), (0, "b")], start=1)
        self.assertEqual((wish.letters, wish.size, wish.start), ("abc", 2, 1))
        self.assertEqual(wish.marks, [(0, "b"), (1, "c")])
        self.assertEqual(wish.text(), "letters abc\nstart 1\n0: 0 1* 0\n1: 1 1 0*")

    def test_start_is_passed_by_keyword(self):
        with self.assertRaises(TypeError):
            Wish("a", [[0]], [], 0)

    def test_the_four_letter_strings(self):
        for letters in ("a", "ab", "abc", "abcd"):
            wish = Wish(letters, [[0] * len(letters)])
            self.assertEqual(wish.letters, letters)

    def test_wrong_letters(self):
        for letters in ("", "b", "ba", "ac", "bc", "aa", "abcde", "A", "a b", "ab ", "ab\n", "x"):
            with self.subTest(letters=letters):
                self.refused(letters, [[0] * len(letters)])

    def test_number_of_rows(self):
        self.refused("a", [])
        for size in range(1, 9):
            self.assertEqual(Wish("a", [[size - 1]] * size).size, size)
        self.refused("a", [[0]] * 9)
        self.assertEqual(Wish.MOST_STATES, 8)

    def test_row_too_short_or_too_long(self):
        self.refused("ab", [[0, 1], [0]])
        self.refused("ab", [[], [0, 1]])
        self.refused("ab", [[0, 1], [0, 1, 1]])

    def test_targets_outside(self):
        self.refused("ab", [[0, -1], [0, 0]])
        self.refused("ab", [[0, 1], [2, 0]])
        self.refused("a", [[8]])
        self.refused("a", [[0]] * 7 + [[-8]])

    def test_start_outside(self):
        self.refused("a", [[0], [1]], start=-1)
        self.refused("a", [[0], [1]], start=2)
        self.refused("a", [[0], [1]], [], start=9)
        self.assertEqual(Wish("a", [[0], [1]], start=1).start, 1)

    def test_marks_outside(self):
        for mark in [(2, "a"), (-1, "a"), (0, "c"), (0, ""), (0, "ab"), (1, "A"), (-2, "b")]:
            with self.subTest(mark=mark):
                self.refused("ab", [[0, 1], [1, 0]], [(0, "a"), mark])
                self.refused("ab", [[0, 1], [1, 0]], (mark, (0, "a")))

    def test_doubled_marks_in_any_order(self):
        wish = Wish("ab", [[0, 1], [1, 0]], [(1, "a"), (0, "b"), (1, "a"), (0, "a")])
        self.assertEqual(wish.marks, [(0, "a"), (0, "b"), (1, "a")])

    def test_marks_in_a_tuple(self):
        wish = Wish("ab", [[0, 1], [1, 0]], ((1, "b"), (0, "b")))
        self.assertEqual(wish.marks, [(0, "b"), (1, "b")])

    def test_later_changes_of_the_lists_have_no_effect(self):
        rows = [[1, 0], [1, 0]]
        marks = [(1, "a")]
        wish = Wish("ab", rows, marks)
        rows[0][0] = 0
        rows[1] = [0, 0]
        rows.append([1, 1])
        marks.append((0, "a"))
        del marks[0]
        self.assertEqual(wish.text(), twice().text())

    def test_the_lists_stay_as_they_are(self):
        rows = [[1, 0], [1, 0]]
        marks = [(1, "a"), (0, "b"), (1, "a")]
        wish = Wish("ab", rows, marks)
        wish[0, "a"] = 0
        wish.remark([])
        self.assertEqual(rows, [[1, 0], [1, 0]])
        self.assertEqual(marks, [(1, "a"), (0, "b"), (1, "a")])


class StepsTest(unittest.TestCase):
    UNKNOWN = [(2, "a"), (-1, "a"), (-2, "b"), (8, "a"), (0, "c"), (1, ""), (0, "ab"), (0, "A"), (5, "x")]

    def test_reading(self):
        wish = twice()
        steps = [wish[0, "a"], wish[0, "b"], wish[1, "a"], wish[1, "b"]]
        self.assertEqual(steps, [1, 0, 1, 0])

    def test_marked(self):
        wish = twice()
        self.assertIs(wish.marked(1, "a"), True)
        self.assertIs(wish.marked(0, "a"), False)
        self.assertIs(wish.marked(1, "b"), False)

    def test_assigning_keeps_the_marks(self):
        wish = twice()
        wish[1, "a"] = 0
        wish[0, "b"] = 1
        self.assertEqual(wish.text(), "letters ab\nstart 0\n0: 1 1\n1: 0* 0")

    def test_unknown_steps(self):
        wish = twice()
        for at in self.UNKNOWN:
            with self.subTest(at=at):
                with self.assertRaises(UnknownStep):
                    wish[at]
                with self.assertRaises(UnknownStep):
                    wish.marked(*at)
                with self.assertRaises(UnknownStep):
                    wish[at] = 0
                with self.assertRaises(UnknownStep):
                    wish[at] = 2
                self.assertEqual(wish.text(), twice().text())

    def test_wrong_targets(self):
        wish = twice()
        for target in (-1, 2, 8, -2):
            with self.subTest(target=target):
                with self.assertRaises(InvalidWish):
                    wish[0, "a"] = target
                self.assertEqual(wish.text(), twice().text())


class MarksTest(unittest.TestCase):
    def test_a_new_list_at_each_reading(self):
        wish = twice()
        marks = wish.marks
        self.assertEqual(marks, [(1, "a")])
        self.assertIsNot(marks, wish.marks)
        marks.append((0, "b"))
        marks[0] = (1, "b")
        self.assertEqual(wish.marks, [(1, "a")])

    def test_replacing_all_marks(self):
        def assign(wish, pairs):
            wish.marks = pairs

        for replace in (assign, Wish.remark):
            wish = twice()
            pairs = [(1, "b"), (0, "a"), (1, "b")]
            self.assertIsNone(replace(wish, pairs))
            self.assertEqual(wish.marks, [(0, "a"), (1, "b")])
            pairs.append((1, "a"))
            self.assertEqual(wish.marks, [(0, "a"), (1, "b")])
            replace(wish, ((0, "b"),))
            self.assertEqual(wish.text(), "letters ab\nstart 0\n0: 1 0*\n1: 1 0")
            replace(wish, ())
            self.assertEqual(wish.marks, [])

    def test_a_refused_pair_leaves_all_marks(self):
        for pair in [(2, "a"), (-1, "b"), (0, "c"), (0, ""), (1, "ab")]:
            for pairs in ([(0, "b"), pair], (pair, (0, "b"))):
                wish = twice()
                with self.subTest(pairs=pairs):
                    with self.assertRaises(InvalidWish):
                        wish.marks = pairs
                    self.assertEqual(wish.marks, [(1, "a")])
                    with self.assertRaises(InvalidWish):
                        wish.remark(pairs)
                    self.assertEqual(wish.marks, [(1, "a")])

    def test_ascending_order_with_all_marks(self):
        wish = Wish("abcd", [[0] * 4] * 8)
        pairs = [(state, letter) for state in range(8) for letter in "abcd"]
        wish.marks = pairs[::-1]
        self.assertEqual(wish.marks, pairs)


if __name__ == "__main__":
    unittest.main()
