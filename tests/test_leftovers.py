"""Leftovers, their order and the least machine (point 11)."""

import random
import unittest
from itertools import product

import oracle
from noteless.leftovers import classes, ladder, least
from noteless.pairs import same
from noteless.wishes import Wish
from oracle import alike, seen, twice


def chain(size):
    """The letter a leads one state up, and only the last state of all takes marks."""
    rows = [[min(state + 1, size - 1), 0] for state in range(size)]
    return Wish("ab", rows, [(size - 1, "a")])


class LeftoversTest(unittest.TestCase):
    def check(self, wish):
        """Hold the three answers against what the tests know of the wish."""
        text = wish.text()
        known = oracle.order(wish)
        groups = self.check_classes(wish, known)
        self.check_ladder(wish, known, groups)
        self.check_least(wish, groups)
        self.assertEqual(wish.text(), text)

    def check_classes(self, wish, known):
        groups = classes(wish)
        self.assertEqual(sorted(state for group in groups for state in group), oracle.reachable(wish))
        self.assertEqual(groups, sorted(sorted(group) for group in groups))
        for group, other in product(groups, groups):
            for s, t in product(group, other):
                self.assertEqual((s, t) in known and (t, s) in known, group == other)
        return groups

    def check_ladder(self, wish, known, groups):
        rungs = ladder(wish)
        states = oracle.reachable(wish)
        if any((s, t) not in known and (t, s) not in known for s, t in product(states, states)):
            self.assertIsNone(rungs)
            return
        self.assertEqual(sorted(rungs), groups)
        for low, high in zip(rungs, rungs[1:]):
            self.assertIn((low[0], high[0]), known)
            self.assertNotIn((high[0], low[0]), known)

    def check_least(self, wish, groups):
        small = least(wish)
        self.assertIsInstance(small, Wish)
        home = {state: number for number, group in enumerate(groups) for state in group}
        self.assertEqual((small.letters, small.size, small.start), (wish.letters, len(groups), home[wish.start]))
        cycles = oracle.quiet_cycles(wish)
        for (number, group), letter in product(enumerate(groups), wish.letters):
            self.assertEqual({home[wish[state, letter]] for state in group}, {small[number, letter]})
            quiet = any((state, letter) in cycles for state in group)
            self.assertIs(small.marked(number, letter), not quiet)
        self.assertLessEqual(small, wish)

    def test_the_examples(self):
        self.assertEqual(ladder(seen()), [[0], [1], [2]])
        self.assertEqual(classes(twice()), [[0, 1]])
        self.assertEqual(least(twice()).text(), "letters ab\nstart 0\n0: 0 0")
        for wish in (seen(), twice()):
            self.check(wish)

    def test_one_state(self):
        for letters in ("a", "ab", "abc", "abcd"):
            row = [0] * len(letters)
            for marks in ([], [(0, "a")], [(0, letter) for letter in letters]):
                wish = Wish(letters, [row], marks)
                self.assertEqual((classes(wish), ladder(wish)), ([[0]], [[0]]))
                self.assertEqual(least(wish).text(), wish.text())
                self.check(wish)

    def test_no_marks_and_all_transitions_marked(self):
        for letters in ("a", "ab", "abc", "abcd"):
            rows = [[(state + step) % 8 for step in range(1, len(letters) + 1)] for state in range(8)]
            pairs = list(product(range(8), letters))
            bad, good = Wish(letters, rows, start=3), Wish(letters, rows, pairs, start=3)
            for wish, small in [(bad, Wish(letters, [[0] * len(letters)])),
                                (good, Wish(letters, [[0] * len(letters)], [(0, letter) for letter in letters]))]:
                self.assertEqual((classes(wish), ladder(wish)), ([list(range(8))], [list(range(8))]))
                self.assertEqual(least(wish).text(), small.text())
                self.check(wish)

    def test_a_chain(self):
        wish = chain(8)
        self.check(wish)
        rising = Wish("a", [[min(state + 1, 7)] for state in range(8)], [(7, "a")])
        self.assertEqual(classes(rising), [list(range(8))])
        steps = Wish("ab", [[min(state + 1, 7), state] for state in range(8)], [(7, "a"), (7, "b")])
        self.assertEqual(ladder(steps), [[state] for state in range(8)])
        climbs = [(state, "a") for state in range(8)] + [(7, "b")]
        self.assertEqual(least(steps).marks, climbs)
        steps.marks = climbs
        self.assertEqual(least(steps).text(), steps.text())
        self.check(steps)
        falling = Wish("ab", [[max(state - 1, 0), state] for state in range(8)], [(0, "a"), (0, "b")], start=7)
        self.assertEqual(classes(falling), [[state] for state in range(8)])
        self.assertEqual(ladder(falling), [[state] for state in range(7, -1, -1)])
        self.assertEqual(least(falling).start, 7)

    def test_states_that_are_not_reached_do_not_count(self):
        rows = [[0, 0], [3, 3], [0, 2], [3, 3]]
        wish = Wish("ab", rows, [(0, "a"), (0, "b"), (2, "b")], start=3)
        self.assertEqual((classes(wish), ladder(wish)), ([[3]], [[3]]))
        self.assertEqual(least(wish).text(), "letters ab\nstart 0\n0: 0 0")
        self.check(wish)
        wish = Wish("ab", rows, [(0, "a"), (0, "b"), (2, "b")], start=2)
        self.assertEqual(classes(wish), [[0, 2]])
        self.check(wish)

    def test_states_that_can_not_be_compared(self):
        wish = alike()
        self.assertEqual(classes(wish), [[0], [1], [2], [3], [4]])
        self.assertIsNone(ladder(wish))
        self.check(wish)
        self.assertEqual(ladder(alike(start=1)), [[4], [1], [3]])

    def test_the_order_of_the_classes_is_that_of_their_first_states(self):
        wish = Wish("ab", [[0, 0], [1, 1], [3, 0], [2, 1]], [(0, "a"), (0, "b")], start=2)
        self.assertEqual(classes(wish), [[0], [1], [2], [3]])
        mixed = Wish("ab", [[2, 1], [3, 0], [0, 3], [1, 2]], [(0, "b"), (2, "b"), (1, "b"), (3, "b")], start=1)
        self.assertEqual(classes(mixed), [[0, 1, 2, 3]])
        halves = Wish("ab", [[2, 1], [3, 1], [0, 3], [3, 1]], [(1, "a"), (1, "b"), (3, "a"), (3, "b")])
        self.assertEqual(classes(halves), [[0, 2], [1, 3]])
        self.assertEqual(ladder(halves), [[0, 2], [1, 3]])
        for asked in (wish, mixed, halves):
            self.check(asked)

    def test_the_ladder_is_not_always_in_the_order_of_the_states(self):
        wish = Wish("ab", [[0, 0], [1, 0], [2, 1]], [(1, "a"), (2, "a"), (2, "b")], start=2)
        self.assertEqual(ladder(wish), [[0], [1], [2]])
        turned = Wish("ab", [[0, 1], [1, 2], [2, 2]], [(1, "a"), (0, "a"), (0, "b")])
        self.assertEqual((classes(turned), ladder(turned)), ([[0], [1], [2]], [[2], [1], [0]]))

    def test_a_mark_of_the_least_machine_that_the_wish_does_not_have(self):
        once = Wish("ab", [[1, 1], [1, 1]], [(1, "a"), (1, "b")])
        self.assertEqual(least(once).text(), "letters ab\nstart 0\n0: 0* 0*")
        self.assertEqual(least(seen()).text(), "letters ab\nstart 0\n0: 1* 0\n1: 1 2*\n2: 2* 2*")

    def test_one_member_with_a_closed_walk_is_enough(self):
        # Only state 0 has a closed walk without marks that begins with a.
        self.assertEqual(twice().marks, [(1, "a")])
        self.assertFalse(least(twice()).marked(0, "a"))

    def test_a_closed_walk_through_states_of_other_classes(self):
        wish = Wish("ab", [[1, 2], [0, 2], [2, 2]], [(2, "a"), (2, "b"), (0, "b")])
        self.assertEqual(classes(wish), [[0, 1], [2]])
        self.assertEqual(least(wish).text(), "letters ab\nstart 0\n0: 0 1*\n1: 1* 1*")
        round_trip = Wish("ab", [[0, 1], [1, 0]], [(0, "a")])
        self.assertEqual(classes(round_trip), [[0], [1]])
        self.assertEqual(least(round_trip).text(), round_trip.text())

    def test_a_wish_that_is_changed(self):
        wish = seen()
        wish[1, "b"] = 1
        self.assertEqual((classes(wish), ladder(wish)), ([[0, 1]], [[0, 1]]))
        self.assertEqual(least(wish).text(), "letters ab\nstart 0\n0: 0 0")
        wish.marks = [(1, "a"), (1, "b")]
        self.assertEqual(ladder(wish), [[0], [1]])
        wish.remark([(0, "b")])
        self.assertEqual(ladder(wish), [[1], [0]])
        wish |= Wish("ab", [[0, 0]], [(0, "a")])
        self.check(wish)
        wish |= Wish("ab", [[0, 0]], [(0, "b")])
        self.assertEqual(len(classes(wish)), 1)
        self.assertTrue(same(wish, Wish("ab", [[0, 0]], [(0, "a"), (0, "b")])))

    def test_the_answers_are_new(self):
        wish = seen()
        for asked in (classes, ladder):
            answer = asked(wish)
            answer[0].append(7)
            answer.append([])
            self.assertEqual(asked(wish), [[0], [1], [2]])
        small = least(wish)
        small[0, "a"] = 2
        small.marks = []
        self.assertEqual(wish.text(), seen().text())
        small = least(wish)
        self.assertEqual(small.text(), least(seen()).text())
        wish[0, "a"] = 2
        wish.marks = []
        self.assertEqual(small.text(), least(seen()).text())

    def test_equal_states_by_all_short_lassos(self):
        dice = random.Random(2)
        ends = [(stem, loop) for stem in oracle.words("ab", range(4)) for loop in oracle.words("ab", range(1, 5))]
        for _ in range(60):
            wish = oracle.drawn(dice, 2, "ab", 0.4)
            steps = oracle.table(wish)
            runs = [{end for end in ends if oracle.is_good(steps, state, end)} for state in range(2)]
            if oracle.reachable(wish) != [0, 1]:
                self.assertEqual(classes(wish), [oracle.reachable(wish)])
            elif runs[0] == runs[1]:
                self.assertEqual((classes(wish), ladder(wish)), ([[0, 1]], [[0, 1]]))
            else:
                self.assertEqual(classes(wish), [[0], [1]])
                expected = [[0], [1]] if runs[0] < runs[1] else [[1], [0]] if runs[1] < runs[0] else None
                self.assertEqual(ladder(wish), expected)

    def test_drawn_wishes(self):
        for wish in oracle.drawn_of_all_sizes(random.Random(11), 250):
            self.check(wish)


if __name__ == "__main__":
    unittest.main()
