"""The text and the table of a board (point 18)."""

import random
import re
import unittest

from noteless.boards import Board
from noteless.errors import InvalidText

LINE = re.compile(r"[a-z0-9]{1,8} (wisher|foe)( [abcd]{1,300}>[a-z0-9]{1,8}){1,6}", re.ASCII)
TEXT = "hall wisher b>hall b>yard\nyard foe a>hall\ncave foe ccc>cave dd>yard"


def ring(many):
    """The text of a board of so many places, each of which leads to the next one."""
    return "\n".join([f"p{at} foe a>p{(at + 1) % many}" for at in range(many)])


def first_bad_line(text):
    """The number of the first line that breaks a rule, or None; by a search of its own."""
    if text == "":
        return None
    lines = text.split("\n")
    openings = {line.split(" ")[0] for line in lines}
    names = []
    for at, line in enumerate(lines, 1):
        name = line.split(" ")[0]
        if at > 40 or not LINE.fullmatch(line) or name in names:
            return at
        if not {way.split(">")[1] for way in line.split(" ")[2:]} <= openings:
            return at
        names.append(name)
    return None


class TextTest(unittest.TestCase):
    def refused(self, text, line):
        with self.assertRaises(InvalidText) as caught:
            Board.read(text)
        self.assertIs(type(caught.exception), InvalidText)
        self.assertEqual(caught.exception.line, line)

    def test_there_and_back(self):
        board = Board.read(TEXT)
        self.assertIsInstance(board, Board)
        self.assertEqual(board.text(), TEXT)
        self.assertEqual(list(board), ["hall", "yard", "cave"])
        self.assertEqual(board["cave"], [("ccc", "cave"), ("dd", "yard")])
        self.assertEqual([board.owner(place) for place in board], ["wisher", "foe", "foe"])
        made = Board()
        made.add("x", "foe", [("a", "x")])
        made.add("y", "wisher", [("abcd", "x"), ("d", "y")])
        self.assertEqual(made.text(), "x foe a>x\ny wisher abcd>x d>y")

    def test_the_board_without_places(self):
        board = Board.read("")
        self.assertEqual((len(board), board.text(), board.table()), (0, "", []))

    def test_each_reading_gives_a_new_board(self):
        first, second = Board.read(TEXT), Board.read(TEXT)
        first.give("hall", "foe")
        self.assertEqual(second.text(), TEXT)
        empty = Board.read("")
        empty.add("x", "foe", [("a", "x")])
        self.assertEqual(Board.read("").text(), "")

    def test_a_board_that_was_read_can_be_changed(self):
        board = Board.read(TEXT)
        board.remove("cave")
        board["yard"] = [("a", "yard")]
        board.add("attic", "wisher", [("d", "attic")])
        self.assertEqual(board.text(), "hall wisher b>hall b>yard\nyard foe a>yard\nattic wisher d>attic")

    def test_limits(self):
        for text in (
            ring(1), ring(2), ring(39), ring(40),
            "a foe a>a",
            "abcdefgh wisher a>abcdefgh",
            "01234567 foe " + "abcd" * 75 + ">01234567",
            "x foe a>x a>x a>x a>x a>x a>x",
        ):
            self.assertEqual(Board.read(text).text(), text)

    def test_lines_after_the_fortieth(self):
        self.refused(ring(41), 41)
        self.refused(ring(60), 41)
        self.refused(ring(40) + "\n", 41)
        self.refused(ring(40) + "\np0 foe a>p0", 41)
        self.refused(ring(41).replace("p5 foe", "p5 fee"), 6)
        # The fortieth place may lead to a name in the line behind it, so that line is the first that breaks a rule.
        self.refused(ring(40).replace("a>p0", "a>last") + "\nlast foe a>p0", 41)
        self.refused(ring(40).replace("a>p0", "a>last") + "\nlast", 41)

    def test_lines_without_the_form(self):
        for line in (
            "", " ", "yard", "yard ", "yard foe", "yard foe ", "yard  foe a>hall", " yard foe a>hall", "yard foe a>hall ",
            "yard foe  a>hall", "yard foe a>hall  b>hall", "yard a>hall", "foe a>hall", "yard foe a", "yard foe a>", "yard foe >hall",
            "yard foe >", "yard foe a>>hall", "yard foe a>hall>hall", "yard foe a:hall", "yard foe a> hall", "yard foe a >hall",
            "yard FOE a>hall", "yard foes a>hall", "yard wish a>hall", "yard  a>hall", "Yard foe a>hall", "y_rd foe a>hall",
            "yardyardy foe a>hall", "yard foe e>hall", "yard foe A>hall", "yard foe aE>hall", "yard foe a>Hall", "yard foe a>attic",
            "yard foe a>hall b>attic", "yard foe " + "a" * 301 + ">hall", "yard foe" + " a>hall" * 7,
            "yard foe a>hall foe", "yard foe wisher a>hall",
        ):
            with self.subTest(line=line):
                self.refused("hall wisher b>hall\n" + line, 2)
                self.refused("hall wisher b>hall\n" + line + "\ncave foe a>cave", 2)
                self.refused(line + "\nhall wisher b>hall", 1)

    def test_a_name_in_an_earlier_line(self):
        self.refused("hall wisher b>hall\nhall foe a>hall", 2)
        self.refused("hall wisher b>hall\nyard foe a>hall\ncave foe a>yard\nyard foe a>hall\ncave", 4)

    def test_the_first_of_several_bad_lines(self):
        self.refused("x foe a>x\ny foe a\nz fo a>z", 2)
        self.refused("x foe a>z\ny foe a>y\nz fo a>z", 3)
        self.refused("\n", 1)
        self.refused("\n\n", 1)
        self.refused("\nx foe a>x", 1)
        self.refused("x foe a>x\n", 2)
        self.refused("x foe a>x\n\ny foe a>y", 2)
        self.refused(" ", 1)

    def test_targets_may_stand_in_any_line(self):
        # The target of line 1 is the first word of a bad line, so line 1 breaks no rule.
        self.refused("x foe a>y\ny", 2)
        self.refused("x foe a>y\ny nobody a>x", 2)
        self.refused("x foe a>y\ny foe a>nowhere", 2)
        self.refused("x foe a>y\n y foe a>x", 1)
        self.refused("x foe a>y\ny\nz foe a>z", 2)
        self.refused("x foe a>z\nx foe a>z\nz foe a>z", 2)
        # A first word that is no name does not help.
        self.refused("x foe a>Y\nY foe a>x", 1)
        self.refused("x foe a>\n", 1)
        self.refused("x foe a>toolongname\ntoolongname foe a>x", 1)

    def test_an_owner_is_no_target(self):
        self.refused("x foe a>foe", 1)
        self.assertEqual(Board.read("foe foe a>wisher\nwisher wisher a>foe").text(), "foe foe a>wisher\nwisher wisher a>foe")

    def test_the_text_with_one_thing_changed(self):
        dice = random.Random(18)
        texts = [TEXT, ring(3), ring(40), "x foe a>x a>x a>x a>x a>x a>x", "abcdefgh wisher abcd>abcdefgh"]
        pieces = ["", "a", "e", "x", " ", ">", "\n", "0", "A", "foe", "wisher", "hall", " a>hall", "p1", "~", "d>x"]
        counts = {True: 0, False: 0}
        for _ in range(3000):
            text = dice.choice(texts)
            at = dice.randint(0, len(text))
            text = text[:at] + dice.choice(pieces) + text[at + dice.choice([0, 0, 1, 1, 3]):]
            bad = first_bad_line(text)
            counts[bad is None] += 1
            if bad is None:
                self.assertEqual(Board.read(text).text(), text)
            else:
                self.refused(text, bad)
        self.assertLess(100, min(counts.values()))

    def test_lines_in_another_order(self):
        dice = random.Random(81)
        for _ in range(200):
            lines = ring(dice.randint(2, 6)).split("\n") + ["x wisher a>x b>p0", "p0 foe a>p1", "y foe"]
            dice.shuffle(lines)
            text = "\n".join(lines[: dice.randint(1, len(lines))])
            bad = first_bad_line(text)
            if bad is None:
                self.assertEqual(Board.read(text).text(), text)
            else:
                self.refused(text, bad)


class TableTest(unittest.TestCase):
    def test_the_example(self):
        board = Board.read("hall wisher a>hall\nyard foe ab>hall")
        self.assertEqual(board.table(), ["hall     wisher  1     1", "yard     foe     1     2"])

    def test_widths(self):
        long_word = "abcd" * 75
        ways = " ".join([f"{long_word}>x"] * 6)
        board = Board.read(f"x wisher {ways}\nabcdefgh foe a>x\ny foe {long_word}>x b>y\nz wisher a>x aa>x aaaa>x b>z bb>z bbb>z")
        self.assertEqual(board.table(), [
            "x        wisher  6  1800",
            "abcdefgh foe     1     1",
            "y        foe     2   301",
            "z        wisher  6    13",
        ])

    def test_the_list_is_new(self):
        board = Board.read(TEXT)
        lines = board.table()
        expected = list(lines)
        lines.clear()
        self.assertEqual(board.table(), expected)
        self.assertEqual(len(expected), 3)


if __name__ == "__main__":
    unittest.main()
