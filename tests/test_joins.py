"""Joining wishes (point 9)."""

import random
import unittest

from noteless.errors import LettersDiffer, TooLarge
from noteless.wishes import Wish, both, either


def left_wish():
    return Wish("ab", [[1, 0], [1, 0]], [(1, "a")])


def right_wish():
    return Wish("ab", [[0, 1], [0, 0]], [(0, "b")])


def ring_of_a(size, marks=()):
    return Wish("ab", [[(state + 1) % size, state] for state in range(size)], marks)


def ring_of_b(size, marks=()):
    return Wish("ab", [[state, (state + 1) % size] for state in range(size)], marks)


def lines(*rows):
    return "\n".join(["letters ab", "start 0", *rows])


def random_wish(dice, size):
    rows = [[dice.randrange(size) for _ in "ab"] for _ in range(size)]
    pairs = [(state, letter) for state in range(size) for letter in "ab"]
    return Wish("ab", rows, dice.sample(pairs, dice.randrange(3)), start=dice.randrange(size))


def random_lassos(dice, many):
    for _ in range(many):
        yield "".join(dice.choices("ab", k=dice.randint(0, 4))), "".join(dice.choices("ab", k=dice.randint(1, 6)))


OR_TEXT = lines("0: 1 2*", "1: 1* 2*", "2: 1 0")
AND_TEXT = lines("0: 1 2", "1: 3 2", "2: 1 0", "3: 3 2*")


class OperatorsTest(unittest.TestCase):
    def test_text_of_or(self):
        self.assertEqual((left_wish() | right_wish()).text(), OR_TEXT)
        self.assertEqual(((left_wish() >> "a") | right_wish()).text(), lines("0: 0* 1*", "1: 0 2", "2: 0 1*"))

    def test_text_of_and(self):
        self.assertEqual((left_wish() & right_wish()).text(), AND_TEXT)
        swapped = lines("0: 1 2", "1: 1 2", "2: 3 4", "3: 1* 2", "4: 3 2")
        self.assertEqual((right_wish() & left_wish()).text(), swapped)

    def test_both_marks_at_once_are_not_one_mark_of_and(self):
        always = Wish("a", [[0]], [(0, "a")])
        self.assertEqual((always & always).text(), "letters a\nstart 0\n0: 1\n1: 0*")
        self.assertEqual((always | always).text(), "letters a\nstart 0\n0: 0*")

    def test_the_wishes_stay_as_they_are(self):
        left, right = left_wish(), right_wish()
        for joined in (left | right, left & right, left | left, left & left):
            joined[0, "a"] = 0
            joined.marks = []
            self.assertEqual((left.text(), right.text()), (left_wish().text(), right_wish().text()))

    def test_the_good_runs(self):
        dice = random.Random(9)
        for _ in range(150):
            left = random_wish(dice, dice.randint(1, 4))
            right = random_wish(dice, 2)
            self.check_good_runs(left, right, dice)

    def check_good_runs(self, left, right, dice):
        joined = left | right
        try:
            met = left & right
        except TooLarge:
            met = None
        for lasso in random_lassos(dice, 20):
            self.assertEqual(lasso in joined, lasso in left or lasso in right)
            if met is not None:
                self.assertEqual(lasso in met, lasso in left and lasso in right)

    def test_eight_states(self):
        joined = ring_of_a(2) | ring_of_b(4)
        self.assertEqual(joined.size, 8)
        self.assertEqual(joined.text(), lines("0: 1 2", "1: 0 3", "2: 3 4", "3: 2 5", "4: 5 6", "5: 4 7", "6: 7 0", "7: 6 1"))
        self.assertEqual((ring_of_a(2) & ring_of_b(4)).size, 8)
        self.assertEqual((ring_of_a(2, [(0, "a")]) & ring_of_b(2, [(0, "b")])).size, 8)

    def test_more_than_eight_states(self):
        with self.assertRaises(TooLarge):
            ring_of_a(3) | ring_of_b(3)
        with self.assertRaises(TooLarge):
            ring_of_a(8) | ring_of_b(8)
        with self.assertRaises(TooLarge):
            ring_of_a(3) & ring_of_b(3)
        with self.assertRaises(TooLarge):
            ring_of_a(2, [(0, "a")]) & ring_of_b(3, [(0, "b")])
        self.assertEqual((ring_of_a(2, [(0, "a")]) | ring_of_b(3, [(0, "b")])).size, 6)

    def test_the_ninth_state_is_found_late(self):
        with self.assertRaises(TooLarge):
            Wish("a", [[1], [2], [0]]) | Wish("a", [[1], [2], [3], [4], [5], [6], [7], [3]])

    def test_only_what_can_be_reached_counts(self):
        ring = ring_of_a(8, [(7, "a")])
        self.assertEqual((ring | ring).text(), ring.text())
        unreached = Wish("ab", [[0, 0]] * 8)
        self.assertEqual((unreached | unreached).size, 1)
        self.assertEqual((unreached & unreached).size, 1)

    def test_different_letters(self):
        wide = Wish("abc", [[0, 0, 0]])
        large = Wish("abc", [[(state + 1) % 8, state, 0] for state in range(8)])
        for left, right in [(left_wish(), wide), (wide, left_wish()), (ring_of_b(8), large), (large, ring_of_b(8))]:
            with self.assertRaises(LettersDiffer):
                left | right
            with self.assertRaises(LettersDiffer):
                left & right


class InPlaceTest(unittest.TestCase):
    def test_every_name_sees_the_change(self):
        wish = left_wish()
        name = wish
        wish |= right_wish()
        self.assertIs(name, wish)
        self.assertEqual(name.text(), OR_TEXT)
        self.assertEqual((name.size, name.start, name.marks), (3, 0, [(0, "b"), (1, "a"), (1, "b")]))
        self.assertEqual(name[2, "a"], 1)

    def test_the_start_changes_too(self):
        wish = left_wish() >> "a"
        wish |= right_wish()
        self.assertEqual(wish.text(), lines("0: 0* 1*", "1: 0 2", "2: 0 1*"))

    def test_itself(self):
        wish = Wish("ab", [[0, 0], [2, 1], [1, 2]], [(2, "a"), (0, "b")], start=2)
        name = wish
        wish |= wish
        self.assertIs(name, wish)
        self.assertEqual(wish.text(), lines("0: 1* 0", "1: 0 1"))

    def test_the_right_wish_stays_and_stays_apart(self):
        wish, right = left_wish(), right_wish()
        wish |= right
        self.assertEqual(right.text(), right_wish().text())
        right[0, "a"] = 1
        right.marks = []
        self.assertEqual(wish.text(), OR_TEXT)

    def test_refused(self):
        for left, right, error in [(ring_of_a(3, [(1, "b")]), ring_of_b(3), TooLarge), (left_wish(), Wish("a", [[0]]), LettersDiffer)]:
            text = left.text()
            name = left
            with self.assertRaises(error):
                left |= right
            self.assertIs(left, name)
            self.assertEqual(left.text(), text)


class ManyTest(unittest.TestCase):
    def test_one_wish_is_copied(self):
        wish = Wish("ab", [[1, 0], [1, 0], [0, 2]], [(1, "a"), (2, "b")], start=1)
        for join in (either, both):
            copied = join(wish)
            self.assertIsNot(copied, wish)
            self.assertEqual(copied.text(), wish.text())
            copied[0, "a"] = 0
            copied.marks = []
            self.assertEqual(wish.text(), "letters ab\nstart 1\n0: 1 0\n1: 1* 0\n2: 0 2*")

    def test_two_wishes(self):
        left, right = left_wish(), right_wish()
        self.assertEqual(either(left, right).text(), OR_TEXT)
        self.assertEqual(both(left, right).text(), AND_TEXT)
        self.assertEqual((left.text(), right.text()), (left_wish().text(), right_wish().text()))

    def test_three_wishes_from_left_to_right(self):
        first, second, third = left_wish(), right_wish(), ring_of_b(2, [(1, "b")])
        self.assertEqual(either(first, second, third).text(), ((first | second) | third).text())
        always = Wish("ab", [[0, 0]], [(0, "a"), (0, "b")])
        never_b = Wish("ab", [[0, 0]], [(0, "a")])
        met = both(always, never_b, always)
        self.assertEqual(met.text(), ((always & never_b) & always).text())
        self.assertNotEqual(met.text(), (always & (never_b & always)).text())

    def test_the_first_refused_step(self):
        first, second, foreign = ring_of_a(3), ring_of_b(3), Wish("a", [[0]])
        for join in (either, both):
            with self.assertRaises(TooLarge):
                join(first, second, foreign)
            with self.assertRaises(LettersDiffer):
                join(first, foreign, second)
            with self.assertRaises(LettersDiffer):
                join(foreign, first, second)
            self.assertEqual(first.text(), ring_of_a(3).text())

    def test_later_wishes_are_not_looked_at(self):
        for join in (either, both):
            with self.assertRaises(TooLarge):
                join(ring_of_a(3), ring_of_b(3), None)
            with self.assertRaises(LettersDiffer):
                join(ring_of_a(3), Wish("a", [[0]]), None)


if __name__ == "__main__":
    unittest.main()
