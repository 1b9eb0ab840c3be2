"""Plans, turns, plays and boards that are kept to a plan (points 19 and 20)."""

import random
import unittest
from inspect import isgenerator
from itertools import islice

import sweeps
from noteless.boards import Board
from noteless.errors import InvalidMove, InvalidPlan, UnknownPlace
from noteless.plans import Plan, Turns, kept_to, play

TEXT = "hall wisher b>hall b>yard ccc>hall\nyard foe a>hall dd>cave\ncave wisher c>yard d>cave"


class Noting:
    """A player that notes each place with which it is called; it has the indexes of another player."""

    def __init__(self, player):
        self.player = player
        self.places = []

    def __call__(self, place):
        self.places.append(place)
        return self.player(place)


class PlanCase(unittest.TestCase):
    def refused(self, error, place, asked, *told):
        """The call raises exactly this error, for the place."""
        with self.assertRaises(error) as caught:
            asked(*told)
        self.assertIs(type(caught.exception), error)
        self.assertEqual(caught.exception.place, place)


class PlanTest(PlanCase):
    def test_indexes(self):
        plan = Plan({"hall": 1, "cave": 0, "yard": 5})
        self.assertEqual([plan("hall"), plan("cave"), plan("yard"), plan("hall")], [1, 0, 5, 1])

    def test_any_integers_are_accepted(self):
        plan = Plan({"hall": -1, "cave": 10 ** 30, "yard": 6})
        self.assertEqual([plan("hall"), plan("cave"), plan("yard")], [-1, 10 ** 30, 6])

    def test_a_place_without_an_index(self):
        for plan in (Plan({}), Plan({"hall": 0, "yard": 1})):
            for place in ("cave", "", "Hall", "hal", "halls"):
                self.refused(InvalidPlan, place, plan, place)
        self.assertEqual(plan.choices, {"hall": 0, "yard": 1})

    def test_choices(self):
        self.assertEqual(Plan({}).choices, {})
        plan = Plan({"hall": 1, "cave": -2})
        self.assertEqual(plan.choices, {"hall": 1, "cave": -2})
        self.assertIsInstance(plan.choices, dict)

    def test_the_dict_that_is_passed_is_copied(self):
        choices = {"hall": 1, "cave": 0}
        plan = Plan(choices)
        choices["hall"] = 2
        del choices["cave"]
        choices["yard"] = 3
        self.assertEqual(plan.choices, {"hall": 1, "cave": 0})
        self.assertEqual([plan("hall"), plan("cave")], [1, 0])
        self.refused(InvalidPlan, "yard", plan, "yard")

    def test_the_dict_that_is_returned_is_new(self):
        given = {"hall": 1, "cave": 0}
        plan = Plan(given)
        plan.choices.clear()
        choices = plan.choices
        choices["hall"] = 2
        choices["yard"] = 3
        self.assertEqual(plan.choices, {"hall": 1, "cave": 0})
        self.assertEqual(plan("hall"), 1)
        self.assertEqual(given, {"hall": 1, "cave": 0})
        other = Plan(plan.choices)
        self.assertEqual(other.choices, plan.choices)
        self.assertIsNot(plan.choices, plan.choices)


class TurnsTest(PlanCase):
    def indexes(self, turns, many):
        return [turns("hall") for _ in range(many)]

    def test_first_and_then_again(self):
        self.assertEqual(self.indexes(Turns([3, 1], [0, 2, 4]), 12), [3, 1, 0, 2, 4, 0, 2, 4, 0, 2, 4, 0])
        self.assertEqual(self.indexes(Turns([], [5, 1]), 5), [5, 1, 5, 1, 5])
        self.assertEqual(self.indexes(Turns([], [7]), 3), [7, 7, 7])
        self.assertEqual(self.indexes(Turns([-4], [10 ** 20]), 3), [-4, 10 ** 20, 10 ** 20])

    def test_whatever_the_place(self):
        turns = Turns([3, 1], [0])
        self.assertEqual([turns("hall"), turns("cave"), turns(""), turns("x y"), turns("hall")], [3, 1, 0, 0, 0])

    def test_used_up(self):
        turns = Turns([3, 1], [])
        self.assertEqual([turns("hall"), turns("cave")], [3, 1])
        for place in ("hall", "cave", "nowhere", "hall"):
            self.refused(InvalidMove, place, turns, place)
        self.refused(InvalidMove, "yard", Turns([], []), "yard")

    def test_many_calls(self):
        dice = random.Random(20)
        for _ in range(100):
            first = [dice.randrange(6) for _ in range(dice.randrange(5))]
            again = [dice.randrange(6) for _ in range(dice.randint(1, 5))]
            many = dice.randrange(40)
            self.assertEqual(self.indexes(Turns(first, again), many), (first + again * 40)[:many])

    def test_objects_of_their_own(self):
        first, again = [0, 1], [2, 3]
        left, right = Turns(first, again), Turns(first, again)
        self.assertEqual(self.indexes(left, 3), [0, 1, 2])
        self.assertEqual(self.indexes(right, 4), [0, 1, 2, 3])
        self.assertEqual(self.indexes(left, 2), [3, 2])
        self.assertEqual((first, again), ([0, 1], [2, 3]))

    def test_the_lists_that_are_passed_are_copied(self):
        first, again = [0, 1], [2, 3]
        turns = Turns(first, again)
        first[1] = 5
        first.append(4)
        again.clear()
        self.assertEqual(self.indexes(turns, 3), [0, 1, 2])
        again.append(9)
        self.assertEqual(self.indexes(turns, 3), [3, 2, 3])
        ending = Turns(first, again[1:])
        first.append(0)
        self.assertEqual(self.indexes(ending, 3), [0, 5, 4])
        self.refused(InvalidMove, "hall", ending, "hall")

    def test_one_list_for_both(self):
        both = [1, 2]
        turns = Turns(both, both)
        both.pop()
        self.assertEqual(self.indexes(turns, 6), [1, 2, 1, 2, 1, 2])


class PlayTest(PlanCase):
    def setUp(self):
        self.board = Board.read(TEXT)

    def test_by_plans(self):
        moves = play(self.board, "hall", Plan({"hall": 1, "cave": 0}), Plan({"yard": 1}), 5)
        self.assertEqual(list(moves), [
            ("hall", 1, "b", "yard"), ("yard", 1, "dd", "cave"), ("cave", 0, "c", "yard"),
            ("yard", 1, "dd", "cave"), ("cave", 0, "c", "yard"),
        ])

    def test_by_turns(self):
        moves = play(self.board, "yard", Turns([2, 0], [1]), Turns([0], [1, 0]), 7)
        self.assertEqual(list(moves), [
            ("yard", 0, "a", "hall"), ("hall", 2, "ccc", "hall"), ("hall", 0, "b", "hall"), ("hall", 1, "b", "yard"),
            ("yard", 1, "dd", "cave"), ("cave", 1, "d", "cave"), ("cave", 1, "d", "cave"),
        ])

    def test_by_a_plan_and_turns(self):
        moves = play(self.board, "hall", Turns([0, 1, 0], []), Plan({"yard": 1, "hall": 9}), 4)
        self.assertEqual([(place, index) for place, index, _, _ in moves], [("hall", 0), ("hall", 1), ("yard", 1), ("cave", 0)])

    def test_one_object_on_both_sides(self):
        plan = Plan({"hall": 1, "yard": 0})
        self.assertEqual([move[:2] for move in play(self.board, "hall", plan, plan, 3)], [("hall", 1), ("yard", 0), ("hall", 1)])
        turns = Turns([0, 2, 1, 1], [0])
        self.assertEqual([move[:2] for move in play(self.board, "hall", turns, turns, 6)], [
            ("hall", 0), ("hall", 2), ("hall", 1), ("yard", 1), ("cave", 0), ("yard", 0),
        ])
        self.assertEqual(turns("hall"), 0)

    def test_the_call_gives_a_generator_of_tuples(self):
        moves = play(self.board, "hall", Turns([], [0]), Turns([], [0]), 3)
        self.assertTrue(isgenerator(moves))
        move = next(moves)
        self.assertIs(type(move), tuple)
        self.assertEqual(move, ("hall", 0, "b", "hall"))

    def test_no_moves(self):
        turns = Turns([1], [])
        self.assertEqual(list(play(self.board, "hall", turns, turns, 0)), [])
        self.assertEqual(turns("hall"), 1)
        self.assertEqual(list(play(self.board, "hall", Plan({}), Plan({}), 0)), [])

    def test_no_call_before_the_move_is_asked_for(self):
        wisher, foe = Noting(Turns([1, 1], [0])), Noting(Turns([], [1]))
        moves = play(self.board, "hall", wisher, foe, 4)
        self.assertEqual((wisher.places, foe.places), ([], []))
        self.assertEqual(next(moves), ("hall", 1, "b", "yard"))
        self.assertEqual((wisher.places, foe.places), (["hall"], []))
        self.assertEqual(next(moves), ("yard", 1, "dd", "cave"))
        self.assertEqual((wisher.places, foe.places), (["hall"], ["yard"]))
        self.assertEqual(next(moves)[:2], ("cave", 1))
        self.assertEqual(next(moves)[:2], ("cave", 0))
        self.assertEqual((wisher.places, foe.places), (["hall", "cave", "cave"], ["yard"]))
        self.assertEqual(list(moves), [])
        self.assertEqual((wisher.places, foe.places), (["hall", "cave", "cave"], ["yard"]))

    def test_played_in_part_turns_stay_where_they_are(self):
        turns = Turns([0, 2, 1], [5])
        moves = play(self.board, "hall", turns, Plan({}), 3)
        self.assertEqual([move[1] for move in islice(moves, 2)], [0, 2])
        self.assertEqual(turns("hall"), 1)
        moves.close()
        self.assertEqual(turns("hall"), 5)

    def test_a_second_play_goes_on_where_the_first_one_stopped(self):
        turns = Turns([0, 2, 0, 1, 1], [0])
        self.assertEqual([move[1] for move in play(self.board, "hall", turns, Plan({}), 2)], [0, 2])
        self.assertEqual([move[1] for move in play(self.board, "hall", turns, Plan({"yard": 1}), 5)], [0, 1, 1, 1, 0])
        self.assertEqual(turns("x"), 0)

    def test_two_plays_in_turn(self):
        turns = Turns([0, 2, 0, 2], [])
        left, right = play(self.board, "hall", turns, turns, 4), play(self.board, "hall", turns, turns, 4)
        indexes = [next(left)[1], next(right)[1], next(right)[1], next(left)[1]]
        self.assertEqual(indexes, [0, 2, 0, 2])

    def test_drawn_plays(self):
        dice = random.Random(19)
        for _ in range(150):
            board = sweeps.drawn_board(dice, dice.randint(1, 6), "abcd", 4, 6)
            text = board.text()
            choices = {place: dice.randrange(len(board[place])) for place in board}
            start, many = dice.choice(list(board)), dice.randrange(20)
            moves, place = [], start
            for _ in range(many):
                moves.append((place, choices[place], *board[place][choices[place]]))
                place = moves[-1][3]
            mine = {place: index for place, index in choices.items() if board.owner(place) == "wisher"}
            others = {place: index for place, index in choices.items() if board.owner(place) == "foe"}
            self.assertEqual(list(play(board, start, Plan(mine), Plan(others), many)), moves)
            by_turns = [
                Turns([index for place, index, _, _ in moves if board.owner(place) == owner], [])
                for owner in ("wisher", "foe")
            ]
            self.assertEqual(list(play(board, start, *by_turns, many)), moves)
            whole = Turns([move[1] for move in moves], [])
            part = dice.randint(0, many)
            self.assertEqual(list(islice(play(board, start, whole, whole, many), part)), moves[:part])
            self.assertEqual(board.text(), text)

    def test_an_unknown_start(self):
        wisher, foe = Noting(Turns([], [0])), Noting(Turns([], [0]))
        for start in ("attic", "", "Hall", "hall ", "wisher"):
            for count in (0, 1, 5):
                moves = play(self.board, start, wisher, foe, count)
                self.refused(UnknownPlace, start, next, moves)
                self.assertEqual(list(moves), [])
        self.refused(UnknownPlace, "hall", next, play(Board(), "hall", wisher, foe, 0))
        self.assertEqual((wisher.places, foe.places), ([], []))

    def test_an_unknown_start_goes_before_the_players(self):
        self.refused(UnknownPlace, "attic", next, play(self.board, "attic", Plan({}), Turns([], []), 3))

    def test_an_index_of_no_way(self):
        for index in (-1, 3, 4, 10 ** 20, -3):
            moves = play(self.board, "hall", Plan({"hall": index}), Plan({}), 2)
            self.refused(InvalidMove, "hall", next, moves)
            self.assertEqual(list(moves), [])
        self.refused(InvalidMove, "yard", next, play(self.board, "yard", Plan({}), Plan({"yard": 2}), 1))
        self.refused(InvalidMove, "cave", next, play(self.board, "cave", Turns([-1], []), Plan({}), 1))

    def test_an_index_of_no_way_after_some_moves(self):
        wisher, foe = Noting(Turns([0, 1, 2], [0])), Noting(Plan({"yard": 1}))
        moves = play(self.board, "hall", wisher, foe, 9)
        self.assertEqual([next(moves)[:2] for _ in range(3)], [("hall", 0), ("hall", 1), ("yard", 1)])
        self.refused(InvalidMove, "cave", next, moves)
        self.assertEqual(list(moves), [])
        self.assertEqual((wisher.places, foe.places), (["hall", "hall", "cave"], ["yard"]))
        self.assertEqual(wisher("hall"), 0)

    def test_a_plan_without_an_index(self):
        moves = play(self.board, "hall", Plan({"hall": 1}), Plan({"yard": 1}), 9)
        self.assertEqual([move[:2] for move in islice(moves, 2)], [("hall", 1), ("yard", 1)])
        self.refused(InvalidPlan, "cave", next, moves)
        self.assertEqual(list(moves), [])
        moves = play(self.board, "hall", Plan({"hall": 1}), Plan({"hall": 0, "cave": 0}), 9)
        self.assertEqual(next(moves), ("hall", 1, "b", "yard"))
        self.refused(InvalidPlan, "yard", next, moves)

    def test_turns_that_are_used_up(self):
        turns = Turns([0, 1], [])
        moves = play(self.board, "hall", turns, turns, 9)
        self.assertEqual([move[1] for move in islice(moves, 2)], [0, 1])
        self.refused(InvalidMove, "yard", next, moves)
        self.assertEqual(list(moves), [])
        exact = Turns([0, 1], [])
        self.assertEqual(len(list(play(self.board, "hall", exact, Plan({}), 2))), 2)

    def test_each_move_is_one_call_of_the_owner(self):
        wisher, foe = Noting(Turns([0, 1, 1], [0, 1])), Noting(Turns([1], [0, 1]))
        moves = list(play(self.board, "hall", wisher, foe, 60))
        self.assertEqual([place for place, _, _, _ in moves if place != "yard"], wisher.places)
        self.assertEqual([place for place, _, _, _ in moves if place == "yard"], foe.places)
        self.assertEqual(len(moves), 60)
        self.assertEqual(self.board.text(), TEXT)


class KeptTest(PlanCase):
    def setUp(self):
        self.board = Board.read(TEXT)

    def test_each_place_of_the_wisher_has_one_way(self):
        kept = kept_to(self.board, Plan({"hall": 2, "cave": 0}))
        self.assertIsInstance(kept, Board)
        self.assertEqual(kept.text(), "hall wisher ccc>hall\nyard foe a>hall dd>cave\ncave wisher c>yard")
        kept = kept_to(self.board, Plan({"cave": 1, "hall": 1}))
        self.assertEqual(kept.text(), "hall wisher b>yard\nyard foe a>hall dd>cave\ncave wisher d>cave")
        self.assertEqual(self.board.text(), TEXT)

    def test_entries_for_other_names_do_not_matter(self):
        plain = kept_to(self.board, Plan({"hall": 0, "cave": 0})).text()
        for more in ({"yard": 0}, {"yard": -1}, {"yard": 7}, {"attic": 9, "": -3, "Hall": 1}):
            self.assertEqual(kept_to(self.board, Plan({**more, "hall": 0, "cave": 0})).text(), plain)

    def test_plans_that_do_not_fit(self):
        for choices, place in (
            ({}, "hall"), ({"hall": 0}, "cave"), ({"cave": 0}, "hall"), ({"yard": 0}, "hall"),
            ({"hall": 3, "cave": 0}, "hall"), ({"hall": -1, "cave": 0}, "hall"), ({"hall": 0, "cave": 2}, "cave"),
            ({"hall": 0, "cave": -1}, "cave"), ({"cave": 9, "hall": 9}, "hall"), ({"cave": -1}, "hall"),
            ({"hall": 10 ** 20, "cave": 0}, "hall"), ({"hall": 2, "cave": -2}, "cave"), ({"hall": 1, "Cave": 0}, "cave"),
        ):
            with self.subTest(choices=choices):
                plan = Plan(choices)
                self.refused(InvalidPlan, place, kept_to, self.board, plan)
                self.assertEqual(self.board.text(), TEXT)
                self.assertEqual(plan.choices, choices)

    def test_the_first_place_in_the_order_of_the_board(self):
        board = Board.read("z foe a>y\ny wisher a>z\nx wisher a>z\na wisher a>a")
        self.refused(InvalidPlan, "y", kept_to, board, Plan({"a": 1}))
        self.refused(InvalidPlan, "x", kept_to, board, Plan({"y": 0}))
        self.refused(InvalidPlan, "x", kept_to, board, Plan({"a": 5, "x": 1, "y": 0}))
        board.give("y", "foe")
        self.refused(InvalidPlan, "x", kept_to, board, Plan({}))

    def test_boards_without_places_of_the_wisher(self):
        self.assertEqual(kept_to(Board(), Plan({})).text(), "")
        self.assertEqual(kept_to(Board(), Plan({"hall": 3})).text(), "")
        text = "x foe a>y b>x\ny foe a>x a>x"
        self.assertEqual(kept_to(Board.read(text), Plan({"x": 5})).text(), text)

    def test_the_board_is_new(self):
        kept = kept_to(self.board, Plan({"hall": 0, "cave": 1}))
        text = kept.text()
        self.board["hall"] = [("d", "cave")]
        self.board.give("yard", "wisher")
        self.assertEqual(kept.text(), text)
        now = self.board.text()
        kept["yard"] = [("aaa", "yard")]
        kept.add("attic", "foe", [("a", "hall")])
        self.assertEqual(self.board.text(), now)
        empty = Board()
        kept_to(empty, Plan({})).add("x", "foe", [("a", "x")])
        self.assertEqual(len(empty), 0)

    def test_drawn_boards(self):
        dice = random.Random(200)
        for _ in range(150):
            board = sweeps.drawn_board(dice, dice.randint(1, 8), "abcd", 5, 6)
            text = board.text()
            choices = {place: dice.randint(-1, 6) for place in board if dice.random() < 0.9}
            bad = [
                place for place in board
                if board.owner(place) == "wisher" and choices.get(place, -1) not in range(len(board[place]))
            ]
            if bad:
                self.refused(InvalidPlan, bad[0], kept_to, board, Plan(choices))
                choices = {place: dice.randrange(len(board[place])) for place in board}
            kept = kept_to(board, Plan(choices))
            self.assertEqual(list(kept), list(board))
            for place in board:
                mine = board.owner(place) == "wisher"
                self.assertEqual(kept.owner(place), board.owner(place))
                self.assertEqual(kept[place], [board[place][choices[place]]] if mine else board[place])
            self.assertEqual(board.text(), text)


if __name__ == "__main__":
    unittest.main()
