"""The text of a wish, and reading it (point 6)."""

import unittest

from noteless.errors import InvalidText
from noteless.wishes import Wish

TWICE = "letters ab\nstart 0\n0: 1 0\n1: 1* 0"
EIGHT = "letters abcd\nstart 7\n" + "\n".join(f"{state}: {state} 0* 7 3*" for state in range(8))


class TextTest(unittest.TestCase):
    def test_text(self):
        self.assertEqual(Wish("ab", [[1, 0], [1, 0]], [(1, "a")]).text(), TWICE)
        self.assertEqual(Wish("a", [[0]]).text(), "letters a\nstart 0\n0: 0")
        self.assertEqual(Wish("a", [[0]], [(0, "a")]).text(), "letters a\nstart 0\n0: 0*")
        rows = [[state, 0, 7, 3] for state in range(8)]
        marks = [(state, letter) for state in range(8) for letter in "bd"]
        self.assertEqual(Wish("abcd", rows, marks, start=7).text(), EIGHT)

    def test_reading_back(self):
        texts = ["letters a\nstart 0\n0: 0", "letters a\nstart 0\n0: 0*", TWICE, EIGHT]
        texts.append("letters abc\nstart 1\n0: 0* 0* 0*\n1: 1 0 1")
        for text in texts:
            wish = Wish.read(text)
            self.assertIsInstance(wish, Wish)
            self.assertEqual(wish.text(), text)

    def test_a_wish_that_was_read(self):
        wish = Wish.read(EIGHT)
        self.assertEqual((wish.letters, wish.size, wish.start), ("abcd", 8, 7))
        self.assertEqual([wish[5, letter] for letter in "abcd"], [5, 0, 7, 3])
        self.assertEqual(wish.marks, [(state, letter) for state in range(8) for letter in "bd"])


class RefusedTest(unittest.TestCase):
    def refused(self, text, line):
        with self.subTest(text=text):
            with self.assertRaises(InvalidText) as caught:
                Wish.read(text)
            self.assertEqual(caught.exception.line, line)

    def test_first_line(self):
        rest = "\nstart 0\n0: 0 0"
        for first in ("", "letters", "letters ", "letters  ab", "letters ba", "letters abcde", "letters ab ", " letters ab",
                      "Letters ab", "lettersab", "letters: ab", "letters b", "letter ab", "letters a b", "letters letters ab"):
            self.refused(first + rest, 1)

    def test_one_line(self):
        self.refused("", 1)
        self.refused("letters", 1)
        self.refused("start 0", 1)
        self.refused("letters ab", 2)

    def test_two_lines(self):
        self.refused("letters ab\nstart 0", 2)
        self.refused("letters ab\nstart 9", 2)
        self.refused("letters ab\n", 2)
        self.refused("letters\nstart 0", 1)
        self.refused("\n", 1)

    def test_three_lines(self):
        self.refused("letters ab\nstart 0\n", 3)
        self.refused("letters ab\nstart 0\n0: 0", 3)
        self.refused("letters ab\nstart 0\n0: 0 1", 3)
        self.refused("letters ab\nstart 1\n0: 0 0", 2)
        self.refused("letters ab\nstart 1\n", 2)
        self.refused("letters x\nstart 1\n", 1)

    def test_second_line(self):
        rest = "\n0: 0 1\n1: 1 0"
        for second in ("", "start", "start ", "start  0", "start 0 ", " start 0", "start 2", "start 8", "start 00", "start 01",
                       "start -1", "start +1", "start a", "start 0*", "Start 0", "start: 0", "start0", "start 10", "start start 0"):
            self.refused("letters ab\n" + second + rest, 2)

    def test_all_lines_behind_the_second_count_for_the_start(self):
        self.refused("letters a\nstart 2\n0: 0\nrubbish\nrubbish", 4)
        self.refused("letters a\nstart 2\nrubbish\n\n", 3)
        self.refused("letters a\nstart 2\n0: 2\n1: 2\n", 5)
        self.refused("letters a\nstart 3\n0: 2\n1: 2\n", 2)

    def test_line_of_a_state(self):
        for row in ("", "1", "1:", "1: ", "1: 0", "1: 0 ", "1: 0 0 0", "1: 0 0 ", "1:  0 0", "1: 0  0", " 1: 0 0", "1 : 0 0",
                    "1:0 0", "0: 0 0", "2: 0 0", "01: 0 0", "x: 0 0", "1; 0 0", "1: 0 3", "1: 8 0", "1: 0 9", "1: 0 -1", "1: 00 0",
                    "1: 0** 0", "1: *0 0", "1: 0 *", "1: 0 0 *", "1: a 0", "1: 0* 0x", "1: 0 0* ", "1:: 0 0", "1: 0, 0"):
            self.refused(f"letters ab\nstart 0\n0: 0 2*\n{row}\n2: 0 0", 4)

    def test_first_and_last_state(self):
        self.refused("letters ab\nstart 0\n1: 0 0\n0: 0 0", 3)
        self.refused("letters ab\nstart 0\n0: 0 0\n0: 0 0", 4)

    def test_the_first_of_several_faults(self):
        self.refused("letters ab\nstart 0\n0: 0 0\n1: 2 0\n3: 0 0 0", 5)
        self.refused("letters ab\nstart 4\n0: 0 0\n1: 2 0\n3: 0 0 0", 2)

    def test_newline_or_space_at_the_end(self):
        self.refused(TWICE + "\n", 5)
        self.refused(TWICE + "\n\n", 5)
        self.refused(TWICE + " ", 4)
        self.refused("\n" + TWICE, 1)
        self.refused(EIGHT + "\n", 11)
        self.refused(EIGHT + " ", 10)

    def test_more_than_eight_states(self):
        self.refused(EIGHT + "\n8: 0 0 0 0", 11)
        self.refused(EIGHT + "\n8: 8 0 0 0\n9: 0 0 0 0", 11)
        nine = [f"{state}: 0" for state in range(9)]
        self.refused("letters a\nstart 8\n" + "\n".join(nine), 2)
        nine[4] = "4: 8"
        self.refused("letters a\nstart 0\n" + "\n".join(nine), 7)
        eleven = [f"{state}: 0" for state in range(11)]
        self.refused("letters a\nstart 7\n" + "\n".join(eleven), 11)


if __name__ == "__main__":
    unittest.main()
