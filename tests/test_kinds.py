"""The three kinds of wishes that need notes (points 12 and 13)."""

import random
import unittest
from itertools import product

import oracle
from noteless.kinds import crossing, laps, needs_notes, rise
from noteless.leftovers import classes, least
from noteless.wishes import Wish
from oracle import alike, seen, twice


def often(letters):
    return Wish("ab", [[0, 0]], [(0, letter) for letter in letters])


def count_up(size):
    """Good are the runs with the word a a ... a b in which there are `size` times a, without end."""
    rows = [[min(state + 1, size), 0] for state in range(size + 1)]
    return Wish("ab", rows, [(size, "b")])


class KindsTest(unittest.TestCase):
    def check(self, wish, kinds=None):
        """Follow each answer through the wish, and hold None against a search; `kinds` are those expected."""
        text = wish.text()
        known = oracle.order(wish)
        found = []
        if self.check_crossing(wish, known):
            found.append("crossing")
        if self.check_rise(wish, known):
            found.append("rise")
        if self.check_laps(wish, known):
            found.append("laps")
        self.assertIs(needs_notes(wish), found != [])
        if kinds is not None:
            self.assertEqual(found, kinds)
        self.assertEqual(wish.text(), text)
        return found

    def check_words(self, wish, words):
        for word in words:
            self.assertIsInstance(word, str)
            self.assertLessEqual(len(word), 300)
            self.assertLessEqual(set(word), set(wish.letters))

    def check_lasso(self, wish, lasso):
        self.assertIsInstance(lasso, tuple)
        stem, loop = lasso
        self.check_words(wish, lasso)
        self.assertNotEqual(loop, "")

    def is_good(self, wish, road, lasso):
        """Whether the run of the road and then of the lasso is good, also by the wish itself."""
        lasso = (road + lasso[0], lasso[1])
        good = oracle.is_good(oracle.table(wish), wish.start, lasso)
        self.assertIs(lasso in wish, good)
        return good

    def check_crossing(self, wish, known):
        states = oracle.reachable(wish)
        answer = crossing(wish)
        if all((s, t) in known or (t, s) in known for s, t in product(states, states)):
            self.assertIsNone(answer)
            return False
        self.assertIsInstance(answer, tuple)
        first_road, second_road, first_end, second_end = answer
        self.check_words(wish, (first_road, second_road))
        self.check_lasso(wish, first_end)
        self.check_lasso(wish, second_end)
        self.assertTrue(self.is_good(wish, first_road, first_end))
        self.assertTrue(self.is_good(wish, second_road, second_end))
        self.assertFalse(self.is_good(wish, first_road, second_end))
        self.assertFalse(self.is_good(wish, second_road, first_end))
        return True

    def check_rise(self, wish, known):
        answer = rise(wish)
        if not has_rise(wish, known):
            self.assertIsNone(answer)
            return False
        self.assertIsInstance(answer, tuple)
        road, lap, end = answer
        self.check_words(wish, (road, lap))
        self.check_lasso(wish, end)
        self.assertNotEqual(lap, "")
        steps = oracle.table(wish)
        low, _ = oracle.read(steps, wish.start, road)
        high, _ = oracle.read(steps, low, lap)
        self.assertIn((low, high), oracle.below(known))
        self.assertFalse(self.is_good(wish, road, ("", lap)))
        self.assertFalse(self.is_good(wish, road, end))
        self.assertTrue(self.is_good(wish, road + lap, end))
        return True

    def check_laps(self, wish, known):
        answer = laps(wish)
        small = least(wish)
        if (wish.start, small.start) in oracle.pair_order(wish, small):
            self.assertIsNone(answer)
            return False
        self.assertIsInstance(answer, tuple)
        self.check_words(wish, answer)
        road, first_lap, second_lap = answer
        steps = oracle.table(wish)
        home, _ = oracle.read(steps, wish.start, road)
        for lap in (first_lap, second_lap):
            self.assertNotEqual(lap, "")
            state, _ = oracle.read(steps, home, lap)
            self.assertTrue((home, state) in known and (state, home) in known)
            self.assertFalse(self.is_good(wish, road, ("", lap)))
        self.assertTrue(self.is_good(wish, road, ("", first_lap + second_lap)))
        return True

    def test_the_examples(self):
        self.check(seen(), ["rise"])
        self.check(twice(), ["laps"])

    def test_one_state(self):
        for letters in ("a", "ab", "abc", "abcd"):
            row = [0] * len(letters)
            for marks in ([], [(0, "a")], [(0, letter) for letter in letters]):
                self.check(Wish(letters, [row], marks), [])

    def test_no_marks_and_all_transitions_marked(self):
        for letters in ("a", "ab", "abc", "abcd"):
            rows = [[(state + step) % 8 for step in range(1, len(letters) + 1)] for state in range(8)]
            pairs = list(product(range(8), letters))
            self.check(Wish(letters, rows, start=3), [])
            self.check(Wish(letters, rows, pairs, start=3), [])

    def test_one_letter_needs_no_notes(self):
        dice = random.Random(1)
        for size in range(1, 9):
            for _ in range(15):
                self.check(oracle.drawn(dice, size, "a", 0.4), [])

    def test_crossing(self):
        self.check(alike(), ["crossing"])
        self.check(alike(start=1), [])
        either_way = Wish("ab", [[1, 2], [1, 1], [2, 2]], [(1, "a"), (2, "b")])
        self.check(either_way, ["crossing"])
        self.check(Wish("abc", [[1, 2, 0], [1, 1, 1], [2, 2, 2]], [(1, "a"), (2, "b")]), ["crossing"])

    def test_states_that_are_not_reached_do_not_count(self):
        rows = [[1, 2], [1, 1], [2, 2]]
        self.check(Wish("ab", rows, [(1, "a"), (2, "b")], start=1), [])
        self.check(Wish("ab", [[0, 0], [2, 1], [2, 3], [3, 3]], [(3, "a"), (3, "b")]), [])
        self.check(Wish("ab", [[0, 0], [2, 1], [2, 1]], [(2, "a")]), [])

    def test_rise(self):
        road, lap, end = rise(seen())
        self.assertEqual((road, set(lap), set(end[1]) | set(end[0])), ("", {"a"}, {"b"}))
        self.assertEqual(lap, "a" * len(lap))
        later = Wish("abc", [[0, 0, 1], [2, 1, 1], [2, 3, 1], [3, 3, 3]], [(3, "a"), (3, "b"), (3, "c")])
        self.check(later, ["rise"])

    def test_no_rise_where_the_lap_is_good(self):
        # The state behind a is above the one before it, but a a a ... is good.
        good_lap = Wish("ab", [[1, 0], [1, 1]], [(1, "a"), (1, "b"), (0, "a")])
        self.assertEqual(classes(good_lap), [[0], [1]])
        self.check(good_lap, [])

    def test_no_rise_along_a_chain_downward(self):
        falling = Wish("ab", [[max(state - 1, 0), state] for state in range(8)], [(7, "b")], start=7)
        self.check(falling, [])

    def test_rise_along_chains(self):
        for size in range(2, 9):
            rows = [[min(state + 1, size - 1), 0] for state in range(size - 1)] + [[size - 1, size - 1]]
            # The top is reached by that many times a without b between; the word b a leads one state up forever.
            top = size - 1
            self.check(Wish("ab", rows, [(top, "a"), (top, "b")]), ["rise"] if size > 2 else [])
            self.check(Wish("ab", rows, [(top, "b")]), ["rise"])

    def test_a_rise_of_many_letters(self):
        wish = Wish.read("letters ab\nstart 3\n0: 4* 1\n1: 1* 2\n2: 0* 4\n3: 2* 3\n4: 0 0*")
        self.assertIn("rise", self.check(wish))
        self.assertLess(2, len(rise(wish)[1]))

    def test_laps(self):
        for size in range(1, 8):
            self.check(count_up(size), ["laps"])

    def test_laps_of_two_wishes_that_hold_together(self):
        self.check(often("a") & often("b"), ["laps"])
        self.check(often("a") | often("b"), [])
        third = Wish("abc", [[0, 0, 0]], [(0, "c")])
        both = Wish("abc", [[0, 0, 0]], [(0, "a")]) & Wish("abc", [[0, 0, 0]], [(0, "b")])
        self.check(both & third, ["laps"])

    def test_laps_that_have_to_be_repeated(self):
        for size in range(1, 8):
            rows = [[min(state + 1, size), 0] for state in range(size + 1)]
            self.check(Wish("ab", rows, [(size, "a")]), ["laps"])

    def test_long_laps(self):
        for text in LONG_LAPS:
            self.assertIn("laps", self.check(Wish.read(text)))

    def test_laps_at_a_later_class_of_the_walk(self):
        for text in (
            "letters ab\nstart 0\n0: 2* 3\n1: 0* 1\n2: 3 1\n3: 2 0*",
            "letters ab\nstart 2\n0: 3 1*\n1: 2* 0*\n2: 3* 1*\n3: 4* 0\n4: 4 2*",
            "letters abc\nstart 2\n0: 0 2 2\n1: 2* 3 2\n2: 2* 3* 1\n3: 0 2 1*",
        ):
            self.assertIn("laps", self.check(Wish.read(text)))

    def test_several_kinds(self):
        found = set()
        for wish in oracle.drawn_of_all_sizes(random.Random(77), 500):
            found.add(tuple(self.check(wish)))
        self.assertLessEqual({(), ("crossing",), ("rise",), ("laps",), ("crossing", "laps")}, found)

    def test_rise_by_all_words(self):
        dice = random.Random(12)
        found = []
        for _ in range(400):
            wish = oracle.drawn(dice, dice.randint(2, 4), "ab", dice.choice([0.1, 0.3, 0.5]))
            known = oracle.order(wish)
            higher = oracle.below(known)
            by_words = any(
                (state, effect[state][0]) in higher and oracle.is_bad_forever(effect, state)
                for effect in oracle.effects(wish)
                for state in oracle.reachable(wish)
            )
            self.assertIs(rise(wish) is not None, by_words)
            found.append(by_words)
        self.assertLess(3, sum(found))

    def test_a_wish_that_is_changed(self):
        wish = seen()
        self.check(wish, ["rise"])
        wish[1, "b"] = 1
        self.check(wish, [])
        wish[1, "b"] = 0
        self.check(wish, [])
        wish.marks = [(1, "a")]
        self.check(wish, ["laps"])
        wish.marks = [(0, "a"), (1, "a")]
        self.check(wish, [])
        wish.remark([(1, "b")])
        self.check(wish, ["laps"])
        wish |= often("a")
        self.check(wish, [])


def has_rise(wish, known):
    """Search a pair (s, t) with s below t and a word from s to t and from t to t that takes no mark behind t."""
    steps = oracle.table(wish)
    edges = {
        (s, t): [(steps[s, x][0], steps[t, x][0]) for x in wish.letters if not steps[t, x][1]]
        for s, t in product(range(wish.size), range(wish.size))
    }
    reached = oracle.closure(edges)
    return any((t, t) in reached[s, t] for s, t in oracle.below(known))


# Wishes of which the closed walk, or the number of laps, is long.
LONG_LAPS = [
    "letters ab\nstart 1\n0: 1 0\n1: 3 0*\n2: 1 0*\n3: 2 3",
    "letters ab\nstart 3\n0: 3* 5\n1: 6 0*\n2: 4 4*\n3: 2 2\n4: 4 6\n5: 6* 3\n6: 1 0",
    "letters ab\nstart 4\n0: 5 1*\n1: 3* 6\n2: 3 5*\n3: 3 1\n4: 3 2\n5: 3* 5\n6: 6* 2",
    "letters abc\nstart 4\n0: 0 2 0*\n1: 1 6* 5\n2: 3 6* 3\n3: 1* 1* 4\n4: 1* 1 3\n5: 5 5* 6\n6: 0 2* 5*",
    "letters abcd\nstart 0\n0: 2 2 0* 5*\n1: 3 4* 2* 3*\n2: 6 7* 0* 6\n3: 1* 4* 5* 0\n4: 2* 5 1 5\n5: 2* 4 1* 5\n"
    "6: 1* 7 2* 6\n7: 3* 5* 6* 4",
    "letters abcd\nstart 0\n0: 2* 2 6* 5*\n1: 3 6* 2* 3\n2: 6 2* 0* 6\n3: 5* 1* 5* 0\n4: 2* 5 1 5*\n5: 2* 5 1 5\n"
    "6: 1* 7 0* 1*\n7: 6* 5* 7* 4",
]


if __name__ == "__main__":
    unittest.main()
