"""Words and lassos (points 3 and 8)."""

import random
import unittest

from noteless.errors import InvalidLasso, UnknownLetter
from noteless.wishes import Wish


def twice():
    return Wish("ab", [[1, 0], [1, 0]], [(1, "a")])


def ring(size):
    """Letter a goes round; the step back to 0 is marked. Letter b stays."""
    return Wish("ab", [[(state + 1) % size, state] for state in range(size)], [(size - 1, "a")])


def is_good(wish, stem, loop):
    """Read round after round until a round starts in a state as one did before."""
    state = wish.start
    for letter in stem:
        state = wish[state, letter]
    seen = []
    rounds = []
    while state not in seen:
        seen.append(state)
        mark = False
        for letter in loop:
            mark = mark or wish.marked(state, letter)
            state = wish[state, letter]
        rounds.append(mark)
    return any(rounds[seen.index(state):])


class ReachTest(unittest.TestCase):
    def test_reach(self):
        wish = twice()
        self.assertEqual([wish.reach(word) for word in ("", "a", "b", "ba", "ab", "aab")], [0, 1, 0, 1, 0, 0])
        self.assertEqual(Wish("a", [[1], [2], [0]], start=1).reach("a"), 2)
        self.assertEqual(Wish("a", [[1], [2], [0]], start=1).reach(""), 1)

    def test_long_words(self):
        wish = ring(7)
        self.assertEqual(wish.reach("a" * 300), 300 % 7)
        self.assertEqual(wish.reach("ab" * 150), 150 % 7)
        self.assertEqual((wish >> "a" * 300).start, 300 % 7)

    def test_unknown_letters(self):
        for word, letter in [("c", "c"), ("abxy", "x"), ("a b", " "), ("a\nb", "\n"), ("A", "A"), ("a" * 299 + "d", "d")]:
            with self.subTest(word=word):
                with self.assertRaises(UnknownLetter) as caught:
                    twice().reach(word)
                self.assertEqual(caught.exception.letter, letter)
                with self.assertRaises(UnknownLetter) as caught:
                    twice() >> word
                self.assertEqual(caught.exception.letter, letter)


class ShiftTest(unittest.TestCase):
    def test_text(self):
        self.assertEqual((twice() >> "ba").text(), "letters ab\nstart 1\n0: 1 0\n1: 1* 0")

    def test_all_states_and_marks_stay(self):
        wish = Wish("ab", [[1, 0], [2, 0], [2, 2], [0, 3]], [(3, "b"), (2, "a")])
        moved = wish >> "aa"
        self.assertEqual(moved.text(), "letters ab\nstart 2\n0: 1 0\n1: 2 0\n2: 2* 2\n3: 0 3*")
        self.assertEqual(wish.start, 0)
        self.assertEqual((moved >> "b").start, 2)

    def test_the_new_wish_is_a_wish_of_its_own(self):
        wish = twice()
        for word in ("", "a"):
            moved = wish >> word
            self.assertIsNot(moved, wish)
            moved[0, "a"] = 0
            moved.marks = [(0, "b")]
            self.assertEqual(wish.text(), twice().text())
        moved = wish >> ""
        wish[0, "a"] = 0
        wish.remark([])
        self.assertEqual(moved.text(), twice().text())


class LassoTest(unittest.TestCase):
    def test_in_and_not_in(self):
        self.assertIs(("bab", "baa") in twice(), True)
        self.assertIs(("aaa", "ab") in twice(), False)
        self.assertIs(("", "a") in twice(), True)
        self.assertIs(("", "b") in twice(), False)

    def test_marks_in_the_stem_and_in_early_rounds_do_not_count(self):
        wish = Wish("ab", [[1, 0], [2, 0], [2, 2]], [(0, "a"), (1, "a")])
        self.assertIs(("aa", "a") in wish, False)
        self.assertIs(("", "a") in wish, False)
        self.assertIs(("", "ab") in wish, True)

    def test_marks_in_late_rounds_count(self):
        wish = ring(8)
        self.assertIs(("", "a") in wish, True)
        self.assertIs(("", "aaa") in wish, True)
        self.assertIs(("aaaaaaaa", "b") in wish, False)
        tail = Wish("a", [[1], [2], [3], [4], [5], [6], [7], [7]], [(7, "a")])
        self.assertIs(("", "a") in tail, True)

    def test_the_start_counts(self):
        wish = Wish("a", [[0], [1]], [(1, "a")])
        self.assertIs(("", "a") in wish, False)
        self.assertIs(("", "a") in Wish("a", [[0], [1]], [(1, "a")], start=1), True)

    def test_long_words(self):
        self.assertIs(("b" * 300, "b" * 299 + "a") in twice(), False)
        self.assertIs(("b" * 300, "b" * 298 + "aa") in twice(), True)
        self.assertIs(("a" * 300, "b" * 300) in twice(), False)

    def test_against_reading_round_after_round(self):
        dice = random.Random(8)
        for _ in range(400):
            size = dice.randint(1, 8)
            rows = [[dice.randrange(size) for _ in "ab"] for _ in range(size)]
            pairs = [(state, letter) for state in range(size) for letter in "ab"]
            wish = Wish("ab", rows, dice.sample(pairs, dice.randint(0, 3) % len(pairs)), start=dice.randrange(size))
            for _ in range(10):
                stem = "".join(dice.choices("ab", k=dice.randint(0, 5)))
                loop = "".join(dice.choices("ab", k=dice.randint(1, 5)))
                self.assertIs((stem, loop) in wish, is_good(wish, stem, loop))

    def test_an_empty_loop_goes_first(self):
        for stem in ("", "ab", "xyz"):
            with self.assertRaises(InvalidLasso):
                (stem, "") in twice()

    def test_the_first_foreign_character(self):
        cases = [("", "c", "c"), ("axb", "a", "x"), ("ab", "bya", "y"), ("axb", "y", "x"), ("bd", "c", "d"), ("a", "ab ", " "),
                 ("b" * 300, "a" * 299 + "\n", "\n")]
        for stem, loop, letter in cases:
            with self.subTest(stem=stem, loop=loop):
                with self.assertRaises(UnknownLetter) as caught:
                    (stem, loop) in twice()
                self.assertEqual(caught.exception.letter, letter)


if __name__ == "__main__":
    unittest.main()
