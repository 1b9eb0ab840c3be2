"""Lists of deeds, and blocks of trial (point 15)."""

import random
import unittest

from noteless.boards import Board, Trial
from noteless.errors import BoardError, InvalidDeed, InvalidPlace, InvalidWays, NotelessError, PlaceInUse, UnknownPlace

TEXT = "hall wisher b>hall b>yard\nyard foe a>hall\ncave foe ccc>cave"


def small():
    return Board.read(TEXT)


def done(*deeds):
    """The text of the small board after the deeds."""
    board = small()
    board.change(list(deeds))
    return board.text()


ADD = ("add", "attic", "foe", [("a", "hall")])
WAYS = ("ways", "yard", [("d", "cave")])
GIVE = ("give", "hall", "foe")
REMOVE = ("remove", "cave")
# Deeds that the small board refuses, with the errors.
REFUSED = [
    (("add", "yard", "foe", [("a", "hall")]), InvalidPlace),
    (("add", "Attic", "foe", []), InvalidPlace),
    (("add", "loft", "foe", [("a", "nowhere")]), InvalidWays),
    (("ways", "nowhere", []), UnknownPlace),
    (("ways", "hall", []), InvalidWays),
    (("give", "nowhere", "foe"), UnknownPlace),
    (("give", "hall", "nobody"), InvalidPlace),
    (("remove", "hall"), PlaceInUse),
    (("remove", "nowhere"), UnknownPlace),
]


class ChangeTest(unittest.TestCase):
    def refused(self, board, deeds, position, place, cause):
        before = board.text()
        with self.assertRaises(InvalidDeed) as caught:
            board.change(deeds)
        error = caught.exception
        self.assertEqual((error.position, error.place), (position, place))
        self.assertIs(type(error.__cause__), cause)
        self.assertEqual(error.__cause__.place, place)
        self.assertEqual(board.text(), before)

    def test_each_deed(self):
        self.assertEqual(done(), TEXT)
        self.assertEqual(done(ADD), TEXT + "\nattic foe a>hall")
        self.assertEqual(done(WAYS), TEXT.replace("a>hall", "d>cave"))
        self.assertEqual(done(GIVE), TEXT.replace("hall wisher", "hall foe"))
        self.assertEqual(done(REMOVE), TEXT.replace("\ncave foe ccc>cave", ""))
        self.assertIsNone(small().change([ADD, REMOVE]))

    def test_deeds_are_done_in_order(self):
        self.assertEqual(
            done(ADD, ("ways", "cave", [("b", "attic")]), ("ways", "attic", [("a", "attic")]), ("ways", "hall", [("c", "cave")]),
                 ("remove", "yard"), ("add", "yard", "wisher", [("d", "yard")])),
            "hall wisher c>cave\ncave foe b>attic\nattic foe a>attic\nyard wisher d>yard",
        )

    def test_a_refused_deed(self):
        for deed, cause in REFUSED:
            for before, behind in ([], []), ([ADD], []), ([ADD, GIVE, WAYS], [REMOVE]), ([("try", [ADD])], [GIVE]):
                self.refused(small(), before + [deed] + behind, len(before), deed[1], cause)

    def test_the_first_refused_deed_counts(self):
        self.refused(small(), [GIVE, REMOVE, REMOVE, ("give", "hall", "nobody")], 2, "cave", UnknownPlace)

    def test_the_errors_are_of_the_program(self):
        self.assertFalse(issubclass(InvalidDeed, BoardError))
        with self.assertRaises(NotelessError):
            small().change([("remove", "hall")])

    def test_a_board_that_was_set_back_goes_on(self):
        board = small()
        self.refused(board, [ADD, GIVE, REMOVE, ("remove", "hall")], 3, "hall", PlaceInUse)
        board.change([ADD, WAYS])
        self.assertEqual(board.text(), TEXT.replace("a>hall", "d>cave") + "\nattic foe a>hall")

    def test_a_full_board(self):
        board = Board()
        board.change([("add", f"p{at}", "foe", [("a", f"p{at}")]) for at in range(40)])
        self.assertEqual(len(board), 40)
        self.refused(board, [("remove", "p0"), ("add", "x", "foe", [("a", "x")]), ("add", "y", "foe", [("a", "y")])],
                     2, "y", InvalidPlace)

    def test_the_lists_may_change_later(self):
        board, ways = small(), [("a", "hall")]
        deeds = [("add", "attic", "foe", ways), ("ways", "cave", ways)]
        board.change(deeds)
        ways.append(("", ""))
        deeds.clear()
        self.assertEqual((board["attic"], board["cave"]), ([("a", "hall")], [("a", "hall")]))


class TryTest(unittest.TestCase):
    def test_a_try_that_holds(self):
        self.assertEqual(done(("try", [])), TEXT)
        self.assertEqual(done(("try", [ADD, GIVE]), REMOVE), done(ADD, GIVE, REMOVE))
        self.assertEqual(done(("try", [ADD]), ("give", "attic", "wisher")), done(ADD, ("give", "attic", "wisher")))

    def test_a_try_that_is_set_back(self):
        for deed, _ in REFUSED:
            self.assertEqual(done(("try", [deed])), TEXT)
            self.assertEqual(done(GIVE, ("try", [ADD, WAYS, deed, REMOVE])), done(GIVE))
            self.assertEqual(done(GIVE, ("try", [ADD, deed]), REMOVE), done(GIVE, REMOVE))
            self.assertEqual(done(("try", [REMOVE, deed]), ("try", [ADD])), done(ADD))

    def test_tries_inside_each_other(self):
        bad = ("remove", "hall")
        self.assertEqual(done(("try", [ADD, ("try", [GIVE, bad]), WAYS])), done(ADD, WAYS))
        self.assertEqual(done(("try", [ADD, ("try", [GIVE]), bad, WAYS])), TEXT)
        self.assertEqual(done(("try", [("try", [bad]), ("try", [GIVE]), ("try", [REMOVE, bad])]), ADD), done(GIVE, ADD))

    def test_five_tries_inside_each_other(self):
        bad = ("remove", "nowhere")
        for depth in (5, 6):
            steps = [("add", f"p{at}", "foe", [("a", f"p{at}")]) for at in range(depth)]
            for refused_at in range(depth + 1):
                deeds = []
                for at in range(depth - 1, -1, -1):
                    deeds = [("try", [steps[at], *deeds] + ([bad] if at == refused_at else []))]
                self.assertEqual(done(*deeds, ADD), done(*steps[:refused_at], ADD))

    def test_a_try_in_a_list_that_is_refused(self):
        board = small()
        with self.assertRaises(InvalidDeed) as caught:
            board.change([("try", [ADD]), ("try", [GIVE, ("remove", "hall")]), ("remove", "attic"), ("remove", "attic")])
        self.assertEqual((caught.exception.position, caught.exception.place), (3, "attic"))
        self.assertEqual(board.text(), TEXT)

    def test_drawn_deeds(self):
        dice = random.Random(15)
        counts = {True: 0, False: 0}
        for _ in range(1500):
            rows = [["a", "wisher", [("a", "b")]], ["b", "foe", [("b", "b")]]]
            board = Board.read("a wisher a>b\nb foe b>b")
            for _ in range(3):
                deeds = [drawn_deed(dice, 3) for _ in range(dice.randint(0, 4))]
                after, refused = model_change(rows, deeds)
                counts[refused is None] += 1
                if refused is None:
                    board.change(deeds)
                else:
                    with self.assertRaises(InvalidDeed) as caught:
                        board.change(deeds)
                    self.assertEqual(caught.exception.position, refused)
                    self.assertEqual(caught.exception.place, deeds[refused][1])
                rows = after
                self.assertEqual(board.text(), model_text(rows))
        self.assertLess(300, min(counts.values()))


def drawn_deed(dice, depth):
    """A deed on places a, b, c and d, which often can't be done."""
    place = dice.choice("abcd")
    ways = [(dice.choice(["a", "bb", "d", "e", ""][: dice.choice([3, 3, 3, 5])]), dice.choice("abcd"))
            for _ in range(dice.randint(1, 2))]
    owner = dice.choice(["wisher", "foe", "wisher", "foe", "nobody"])
    kind = dice.choice(["add", "ways", "give", "remove", "try", "try"][: 6 if depth else 4])
    if kind == "add":
        return ("add", place, owner, ways)
    if kind == "ways":
        return ("ways", place, ways)
    if kind == "give":
        return ("give", place, owner)
    if kind == "remove":
        return ("remove", place)
    return ("try", [drawn_deed(dice, depth - 1) for _ in range(dice.randint(0, 3))])


def model_change(rows, deeds):
    """The rows after the deeds, and the position of a refused one."""
    after = rows
    for position, deed in enumerate(deeds):
        if deed[0] == "try":
            after, _ = model_change(after, deed[1])
            continue
        after = model_deed(after, deed)
        if after is None:
            return rows, position
    return after, None


def model_deed(rows, deed):
    """New rows after one deed, or None if it is refused."""
    names = [name for name, _, _ in rows]
    place = deed[1]
    if (place in names) == (deed[0] == "add"):
        return None
    if deed[0] in ("add", "give") and deed[2] not in ("wisher", "foe"):
        return None
    if deed[0] in ("add", "ways"):
        targets = names + [place]
        if not all(word in ("a", "bb", "d") and target in targets for word, target in deed[-1]):
            return None
    if deed[0] == "add":
        return rows + [[place, deed[2], list(deed[3])]]
    if deed[0] == "remove":
        if any(target == place for name, _, ways in rows for _, target in ways if name != place):
            return None
        return [row for row in rows if row[0] != place]
    if deed[0] == "ways":
        return [[name, owner, list(deed[2]) if name == place else ways] for name, owner, ways in rows]
    return [[name, deed[2] if name == place else owner, ways] for name, owner, ways in rows]


def model_text(rows):
    return "\n".join([" ".join([name, owner, *[f"{word}>{target}" for word, target in ways]]) for name, owner, ways in rows])


class TrialTest(unittest.TestCase):
    def change_all(self, board):
        board.add("attic", "foe", [("a", "hall")])
        board.give("hall", "foe")
        board["yard"] = [("d", "attic")]
        board.remove("cave")

    def changed(self):
        board = small()
        self.change_all(board)
        return board.text()

    def test_a_block_without_an_exception(self):
        board = small()
        self.assertIsInstance(board.trial(), Trial)
        with board.trial():
            self.change_all(board)
        self.assertEqual(board.text(), self.changed())

    def test_a_block_that_raises(self):
        for error in (ValueError, KeyError, KeyboardInterrupt, GeneratorExit, ZeroDivisionError):
            board = small()
            why = error("why")
            with self.assertRaises(error) as caught:
                with board.trial():
                    self.change_all(board)
                    raise why
            self.assertIs(caught.exception, why)
            self.assertEqual(board.text(), TEXT)

    def test_errors_of_the_board_go_on(self):
        board = small()
        with self.assertRaises(PlaceInUse) as caught:
            with board.trial():
                board.give("hall", "foe")
                board.remove("hall")
        self.assertEqual(caught.exception.place, "hall")
        self.assertEqual(board.text(), TEXT)
        with self.assertRaises(InvalidDeed):
            with board.trial():
                board.give("hall", "foe")
                board.change([GIVE, ("remove", "hall")])
        self.assertEqual(board.text(), TEXT)

    def test_an_error_that_is_caught_in_the_block(self):
        board = small()
        with board.trial():
            board.give("hall", "foe")
            with self.assertRaises(PlaceInUse):
                board.remove("hall")
            board.remove("cave")
        self.assertEqual(board.text(), done(GIVE, REMOVE))

    def test_the_board_is_set_back_to_the_start_of_the_block(self):
        board = small()
        trial = board.trial()
        board.give("hall", "foe")
        with self.assertRaises(KeyError):
            with trial:
                board.remove("cave")
                raise KeyError("why")
        self.assertEqual(board.text(), done(GIVE))

    def test_blocks_that_are_left_early(self):
        board = small()
        for _ in range(3):
            with board.trial():
                board.give("hall", "foe")
                break
        self.assertEqual(board.text(), done(GIVE))

    def test_blocks_inside_each_other(self):
        board = small()
        with board.trial():
            board.give("hall", "foe")
            with self.assertRaises(KeyError):
                with board.trial():
                    board.remove("cave")
                    raise KeyError("inner")
            self.assertEqual(board.text(), done(GIVE))
            board.add("attic", "foe", [("a", "hall")])
        self.assertEqual(board.text(), done(GIVE, ADD))

    def test_an_outer_block_that_raises_behind_an_inner_one(self):
        board = small()
        with self.assertRaises(KeyError):
            with board.trial():
                board.give("hall", "foe")
                with board.trial():
                    board.remove("cave")
                self.assertEqual(board.text(), done(GIVE, REMOVE))
                raise KeyError("outer")
        self.assertEqual(board.text(), TEXT)

    def test_an_exception_through_several_blocks(self):
        board = small()
        with self.assertRaises(KeyError):
            with board.trial():
                board.give("hall", "foe")
                with board.trial():
                    board.remove("cave")
                    with board.trial():
                        board.add("attic", "foe", [("a", "hall")])
                        raise KeyError("innermost")
        self.assertEqual(board.text(), TEXT)

    def test_blocks_one_behind_the_other(self):
        board = small()
        for at in range(3):
            with self.assertRaises(KeyError):
                with board.trial():
                    board.give("hall", "foe")
                    board.change([ADD, ("try", [REMOVE])])
                    raise KeyError("why")
            self.assertEqual(board.text(), TEXT)
            with board.trial():
                board.add(f"p{at}", "foe", [("a", "hall")])
            board.remove(f"p{at}")

    def test_a_copy_made_in_a_block_stays(self):
        board = small()
        with self.assertRaises(KeyError):
            with board.trial():
                board.give("hall", "foe")
                twin = board.copy()
                raise KeyError("why")
        self.assertEqual((board.text(), twin.text()), (TEXT, done(GIVE)))

    def test_two_boards_in_two_blocks(self):
        first, second = small(), small()
        with self.assertRaises(KeyError):
            with first.trial():
                with self.assertRaises(IndexError):
                    with second.trial():
                        first.give("hall", "foe")
                        second.give("yard", "wisher")
                        raise IndexError("inner")
                self.assertEqual((first.text(), second.text()), (done(GIVE), TEXT))
                second.give("hall", "foe")
                raise KeyError("outer")
        self.assertEqual((first.text(), second.text()), (TEXT, done(GIVE)))


if __name__ == "__main__":
    unittest.main()
