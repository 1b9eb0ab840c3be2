"""Boards, changed one step at a time (points 14 to 17)."""

import unittest

from noteless.boards import Board
from noteless.errors import InvalidPlace, InvalidWays, PlaceInUse, UnknownPlace

NAMES = [f"p{number}" for number in range(40)]


def small():
    """Three places, of which the first has a way to itself."""
    return Board.read("hall wisher b>hall b>yard\nyard foe a>hall\ncave foe ccc>cave")


def full():
    board = Board()
    for name in NAMES:
        board.add(name, "foe", [("a", name)])
    return board


class BoardCase(unittest.TestCase):
    def refused(self, error, place, board, asked, *told):
        """The call raises exactly this error for the place, and the board stays as it is."""
        before = board.text()
        with self.assertRaises(error) as caught:
            asked(*told)
        self.assertIs(type(caught.exception), error)
        self.assertEqual(caught.exception.place, place)
        self.assertEqual(board.text(), before)


class AddTest(BoardCase):
    def test_a_new_place_stands_at_the_end(self):
        board = small()
        self.assertIsNone(board.add("attic", "wisher", [("ab", "hall"), ("d", "attic")]))
        self.assertEqual(list(board), ["hall", "yard", "cave", "attic"])
        self.assertEqual(board["attic"], [("ab", "hall"), ("d", "attic")])
        self.assertEqual(board.owner("attic"), "wisher")

    def test_the_first_place_leads_to_itself(self):
        board = Board()
        board.add("x", "foe", [("a", "x")])
        self.assertEqual(board.text(), "x foe a>x")
        self.refused(InvalidWays, "y", Board(), Board().add, "y", "foe", [("a", "x")])

    def test_names_that_are_not_valid(self):
        board = small()
        for name in ("", "ninechars", "Hall", "a_b", "a b", "a-", "x>", "a\n", "hal.", "~"):
            self.refused(InvalidPlace, name, board, board.add, name, "foe", [("a", "hall")])
        for name in ("z", "0", "eightcha", "90abcxyz"):
            board.add(name, "foe", [("a", "hall")])
        self.assertEqual(len(board), 7)

    def test_a_name_that_the_board_has(self):
        board = small()
        self.refused(InvalidPlace, "yard", board, board.add, "yard", "foe", [("a", "hall")])

    def test_other_owners(self):
        board = small()
        for owner in ("", "Wisher", "foes", "wisher ", "nobody", "fo"):
            self.refused(InvalidPlace, "attic", board, board.add, "attic", owner, [("a", "hall")])

    def test_no_more_than_forty_places(self):
        self.assertEqual(Board.MOST_PLACES, 40)
        board = full()
        self.assertEqual(len(board), 40)
        self.refused(InvalidPlace, "more", board, board.add, "more", "foe", [("a", "p0")])
        board.remove("p7")
        board.add("more", "foe", [("a", "p0")])
        self.assertEqual(list(board)[-2:], ["p39", "more"])
        self.refused(InvalidPlace, "p7", board, board.add, "p7", "foe", [("a", "p7")])

    def test_an_invalid_place_goes_before_invalid_ways(self):
        board = small()
        for bad in ([], [("", "hall")], [("a", "nowhere")]):
            self.refused(InvalidPlace, "Attic", board, board.add, "Attic", "foe", bad)
            self.refused(InvalidPlace, "yard", board, board.add, "yard", "foe", bad)
            self.refused(InvalidPlace, "attic", board, board.add, "attic", "nobody", bad)
            packed = full()
            self.refused(InvalidPlace, "attic", packed, packed.add, "attic", "foe", bad)

    def test_the_list_that_is_passed_may_change_later(self):
        board, ways = small(), [("a", "hall")]
        board.add("attic", "foe", ways)
        ways.append(("", "nowhere"))
        ways[0] = ("b", "yard")
        self.assertEqual(board["attic"], [("a", "hall")])


class WaysTest(BoardCase):
    def bad_ways(self):
        return [
            [],
            [("a", "hall")] * 7,
            [("", "hall")],
            [("a" * 301, "hall")],
            [("abcda" * 60 + "d", "hall")],
            [("abe", "hall")],
            [("A", "hall")],
            [("a ", "hall")],
            [("a>", "hall")],
            [("a\n", "hall")],
            [("a", "nowhere")],
            [("a", "")],
            [("a", "Hall")],
            [("a", "hall"), ("b", "yard"), ("a", "nowhere")],
            [("a", "hall"), ("", "yard"), ("c", "cave")],
        ]

    def test_ways_that_do_not_fit(self):
        board = small()
        for ways in self.bad_ways():
            self.refused(InvalidWays, "attic", board, board.add, "attic", "foe", ways)
            self.refused(InvalidWays, "yard", board, board.__setitem__, "yard", ways)

    def test_ways_at_the_limits(self):
        self.assertEqual(Board.MOST_WAYS, 6)
        for ways in ([("a", "hall")] * 6, [("abcd" * 75, "yard")], [("d", "cave")], [("a", "yard")] * 2):
            board = small()
            board["yard"] = ways
            self.assertEqual(board["yard"], ways)
            board.add("attic", "wisher", ways)
            self.assertEqual(board["attic"], ways)

    def test_only_an_added_place_may_lead_to_a_name_that_is_not_there_yet(self):
        board = small()
        self.refused(InvalidWays, "yard", board, board.__setitem__, "yard", [("a", "attic")])
        board.add("attic", "foe", [("a", "attic")])
        board["yard"] = [("a", "attic"), ("b", "yard")]
        self.assertEqual(board["yard"], [("a", "attic"), ("b", "yard")])

    def test_new_ways_leave_the_position_and_the_owner(self):
        board = small()
        board["hall"] = [("dd", "cave")]
        self.assertEqual(board.text(), "hall wisher dd>cave\nyard foe a>hall\ncave foe ccc>cave")

    def test_an_unknown_place_goes_before_invalid_ways(self):
        board = small()
        for ways in self.bad_ways():
            self.refused(UnknownPlace, "attic", board, board.__setitem__, "attic", ways)
        self.refused(UnknownPlace, "", board, board.__setitem__, "", [("a", "hall")])

    def test_the_lists_may_change_later(self):
        board, ways = small(), [("a", "hall")]
        board["cave"] = ways
        ways.append(("b", "yard"))
        self.assertEqual(board["cave"], [("a", "hall")])
        answer = board["cave"]
        answer[0] = ("b", "yard")
        answer.clear()
        self.assertEqual(board["cave"], [("a", "hall")])
        board["cave"] = board["hall"]
        board["hall"] = [("d", "cave")]
        self.assertEqual(board["cave"], [("b", "hall"), ("b", "yard")])

    def test_an_answer_stays_when_the_board_changes(self):
        board = small()
        answer = board["hall"]
        board["hall"] = [("d", "cave")]
        self.assertEqual(answer, [("b", "hall"), ("b", "yard")])


class GiveTest(BoardCase):
    def test_the_position_and_the_ways_stay(self):
        board = small()
        self.assertIsNone(board.give("hall", "foe"))
        self.assertEqual(board.text(), "hall foe b>hall b>yard\nyard foe a>hall\ncave foe ccc>cave")
        board.give("hall", "foe")
        board.give("yard", "wisher")
        self.assertEqual([board.owner(place) for place in board], ["foe", "wisher", "foe"])

    def test_wrong_places_and_owners(self):
        board = small()
        for owner in ("foe", "nobody"):
            self.refused(UnknownPlace, "attic", board, board.give, "attic", owner)
        for owner in ("", "nobody", "FOE"):
            self.refused(InvalidPlace, "hall", board, board.give, "hall", owner)


class RemoveTest(BoardCase):
    def test_a_place_to_which_no_other_leads(self):
        board = small()
        self.assertIsNone(board.remove("cave"))
        self.assertEqual(board.text(), "hall wisher b>hall b>yard\nyard foe a>hall")
        board.add("cave", "wisher", [("a", "cave")])
        board["yard"] = [("a", "yard")]
        board.remove("hall")
        self.assertEqual(list(board), ["yard", "cave"])
        board.remove("yard")
        board.remove("cave")
        self.assertEqual((board.text(), len(board)), ("", 0))

    def test_places_in_use_and_unknown_places(self):
        board = small()
        self.refused(PlaceInUse, "hall", board, board.remove, "hall")
        self.refused(PlaceInUse, "yard", board, board.remove, "yard")
        self.refused(UnknownPlace, "attic", board, board.remove, "attic")
        board["cave"] = [("a", "cave"), ("a", "cave"), ("a", "yard")]
        board["hall"] = [("a", "hall")]
        self.refused(PlaceInUse, "yard", board, board.remove, "yard")
        board["cave"] = [("a", "cave")]
        board.remove("yard")
        self.refused(UnknownPlace, "yard", board, board.remove, "yard")


class AskTest(BoardCase):
    def test_a_board_without_places(self):
        board = Board()
        self.assertEqual((len(board), list(board), board.text(), board.table()), (0, [], "", []))
        self.assertIs("hall" in board, False)
        self.assertEqual((len(board.copy()), board.copy().text()), (0, ""))
        self.refused(UnknownPlace, "hall", board, board.__getitem__, "hall")
        self.refused(UnknownPlace, "hall", board, board.owner, "hall")
        self.refused(UnknownPlace, "hall", board, board.remove, "hall")
        self.refused(UnknownPlace, "hall", board, board.give, "hall", "foe")

    def test_unknown_places(self):
        board = small()
        for name in ("attic", "", "Hall", "hall "):
            self.refused(UnknownPlace, name, board, board.__getitem__, name)
            self.refused(UnknownPlace, name, board, board.owner, name)
            self.assertIs(name in board, False)

    def test_known_places(self):
        board = small()
        self.assertEqual(board["hall"], [("b", "hall"), ("b", "yard")])
        self.assertIs(type(board["hall"]), list)
        self.assertEqual((board.owner("hall"), board.owner("cave")), ("wisher", "foe"))
        self.assertIs("hall" in board, True)
        self.assertEqual((len(board), [name for name in board]), (3, ["hall", "yard", "cave"]))
        self.assertEqual(len(full()), 40)
        self.assertEqual(list(full()), NAMES)

    def test_loops_inside_each_other(self):
        board = small()
        pairs = [(one, other) for one in board for other in board]
        self.assertEqual(len(set(pairs)), 9)

    def test_a_copy_is_a_board_of_its_own(self):
        board = small()
        twin = board.copy()
        self.assertIsInstance(twin, Board)
        self.assertEqual(twin.text(), board.text())
        twin.give("hall", "foe")
        twin["yard"] = [("d", "yard")]
        twin.remove("cave")
        twin.add("attic", "foe", [("a", "hall")])
        self.assertEqual(board.text(), small().text())
        board.remove("cave")
        board.give("yard", "wisher")
        self.assertEqual(twin.text(), "hall foe b>hall b>yard\nyard foe d>yard\nattic foe a>hall")

    def test_boards_do_not_share_places(self):
        first, second = Board(), Board()
        first.add("x", "foe", [("a", "x")])
        self.assertEqual(len(second), 0)

    def test_valid_names(self):
        for name in ("a", "z", "0", "9", "hall", "a1b2c3d4", "00000000"):
            self.assertIs(Board.valid_name(name), True)
        for name in ("", "a" * 9, "A", "hAll", "a b", " a", "a ", "a_b", "x>y", "a\n", "\n", "a.", "-", "`", "{", "/", ":"):
            self.assertIs(Board.valid_name(name), False)
        self.assertIs(Board().valid_name("hall"), True)


if __name__ == "__main__":
    unittest.main()
