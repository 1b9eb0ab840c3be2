"""The places that are won, one plan for all of them, and the judge of plans (points 21 and 22)."""

import random
import unittest
from itertools import product

import oracle
import sweeps
from noteless.boards import Board
from noteless.errors import InvalidPlan, NotesNeeded, UnknownLetter
from noteless.games import judge, solve, won
from noteless.kinds import crossing, laps, needs_notes, rise
from noteless.leftovers import classes
from noteless.plans import Plan, play
from noteless.wishes import Wish
from oracle import alike, seen, twice

TEXT = "hall wisher b>hall b>yard\nyard foe a>hall\ncave foe b>cave"


def always(letters="a", of="ab"):
    return Wish(of, [[0] * len(of)], [(0, letter) for letter in letters])


def falling(size):
    """Good are the runs with a without end, as long as there are fewer letters b than states above the start."""
    rows = [[state, max(state - 1, 0)] for state in range(size)]
    return Wish("ab", rows, [(state, "a") for state in range(1, size)], start=size - 1)


def drawn_wish(dice):
    """A wish of one of several kinds, many of which need no notes."""
    if dice.random() < 0.6:
        wish = sweeps.drawn_ladder(dice)
    else:
        letters = "abcd"[: dice.randint(1, 4)]
        wish = oracle.drawn(dice, dice.randint(1, 6), letters, dice.choice([0.05, 0.1, 0.2, 0.3, 0.5]))
    if dice.random() < 0.5:
        wish = sweeps.split(dice, wish, dice.randint(wish.size, min(8, wish.size + 3)))
    return wish


def drawn_choices(dice, board):
    return {place: dice.randrange(len(board[place])) for place in board if board.owner(place) == "wisher"}


class GameCase(unittest.TestCase):
    def check_won(self, wish, board):
        texts = wish.text(), board.text()
        places = won(wish, board)
        self.assertIsInstance(places, list)
        self.assertEqual(places, sweeps.won_places(wish, board), texts)
        self.assertEqual((wish.text(), board.text()), texts)
        return places

    def check_solve(self, wish, board, places):
        """Solve with a wish that needs no notes: the plan wins from each place that can be won."""
        texts = wish.text(), board.text()
        plan = solve(wish, board)
        self.assertIsInstance(plan, Plan)
        mine = {place for place in board if board.owner(place) == "wisher"}
        self.assertEqual(set(plan.choices), mine)
        for place, index in plan.choices.items():
            self.assertIn(index, range(len(board[place])))
        self.assertEqual(set(places) & set(sweeps.beaten_places(wish, board, plan.choices)), set(), (texts, plan.choices))
        self.assertIsNone(judge(wish, board, plan))
        self.assertEqual((wish.text(), board.text()), texts)
        return plan

    def check_judge(self, wish, board, choices, places):
        """Judge a plan, and follow the play that is returned; tell whether the plan is good."""
        texts = wish.text(), board.text()
        plan = Plan(choices)
        answer = judge(wish, board, plan)
        self.assertEqual((wish.text(), board.text(), plan.choices), (*texts, choices))
        if not set(places) & set(sweeps.beaten_places(wish, board, choices)):
            self.assertIsNone(answer, (texts, choices))
            return True
        self.assertIsInstance(answer, tuple)
        start, moves, cycle = answer
        self.assertIn(start, places)
        for indexes in (moves, cycle):
            self.assertIsInstance(indexes, list)
            self.assertLessEqual(len(indexes), 400)
        self.assertNotEqual(cycle, [])
        stem = sweeps.follow(board, start, moves)
        at = stem[-1][3] if stem else start
        loop = sweeps.follow(board, at, cycle)
        self.assertEqual(loop[-1][3], at)
        for place, index, _, _ in stem + loop:
            if board.owner(place) == "wisher":
                self.assertEqual(index, choices[place])
        lasso = (sweeps.spelled(stem), sweeps.spelled(loop))
        self.assertFalse(oracle.is_good(oracle.table(wish), wish.start, lasso))
        return False


class ExampleTest(GameCase):
    def test_the_examples(self):
        board = Board.read(TEXT)
        self.assertEqual(won(always(), board), ["hall", "yard"])
        self.assertEqual(solve(always(), board).choices, {"hall": 1})
        self.assertIsNone(judge(always(), board, Plan({"hall": 1})))
        start, _, cycle = judge(always(), board, Plan({"hall": 0}))
        self.assertIn(start, ("hall", "yard"))
        self.assertEqual(set(cycle), {0})
        self.check_judge(always(), board, {"hall": 0}, ["hall", "yard"])

    def test_the_order_of_the_board(self):
        board = Board.read("z foe a>z\na foe b>a\nm wisher b>a a>z\nb wisher b>m")
        self.assertEqual(self.check_won(always(), board), ["z", "m", "b"])
        self.assertEqual(solve(always(), board).choices, {"m": 1, "b": 0})

    def test_all_and_none(self):
        board = Board.read(TEXT)
        self.assertEqual(self.check_won(Wish("ab", [[0, 0]]), board), [])
        self.check_solve(Wish("ab", [[0, 0]]), board, [])
        self.assertEqual(self.check_won(always("ab"), board), ["hall", "yard", "cave"])
        self.check_solve(always("ab"), board, ["hall", "yard", "cave"])
        for choice in (0, 1):
            self.assertIsNone(judge(Wish("ab", [[0, 0]]), board, Plan({"hall": choice})))
            self.assertIsNone(judge(always("ab"), board, Plan({"hall": choice})))

    def test_the_board_without_places(self):
        for wish in (always(), seen(), twice(), alike(), Wish("a", [[0]])):
            self.assertEqual(won(wish, Board()), [])
            self.assertIsNone(judge(wish, Board(), Plan({})))
            self.assertIsNone(judge(wish, Board(), Plan({"hall": -1})))
        plan = solve(always(), Board())
        self.assertIsInstance(plan, Plan)
        self.assertEqual(plan.choices, {})
        self.assertEqual(won(always(), Board()), [])

    def test_a_mark_at_the_end_of_a_long_word(self):
        board = Board.read("x wisher " + "a" * 300 + ">x " + "a" * 299 + "b>x " + "a" * 299 + "b>y\ny foe a>y")
        self.assertEqual(self.check_won(always("b"), board), ["x"])
        self.assertEqual(solve(always("b"), board).choices, {"x": 1})
        self.assertFalse(self.check_judge(always("b"), board, {"x": 0}, ["x"]))
        self.assertFalse(self.check_judge(always("b"), board, {"x": 2}, ["x"]))

    def test_the_foe_does_not_play_along(self):
        board = Board.read("x foe a>x b>y\ny wisher b>x b>y")
        self.assertEqual(self.check_won(always(), board), [])
        board.give("x", "wisher")
        self.assertEqual(self.check_won(always(), board), ["x", "y"])
        self.assertEqual(solve(always(), board).choices, {"x": 0, "y": 0})

    def test_a_mark_that_leads_to_a_lost_place_is_of_no_use(self):
        board = Board.read("x wisher aaa>z b>y\ny wisher b>x ab>x b>y\nz foe b>z")
        self.assertEqual(self.check_won(always(), board), ["x", "y"])
        self.assertEqual(solve(always(), board).choices, {"x": 1, "y": 1})

    def test_words_are_read_with_the_state_of_the_wish(self):
        # From x the play comes to y with one b less to spend than from y itself.
        board = Board.read("x foe b>y\ny wisher ba>y a>z\nz foe aaa>z\ntop foe a>y")
        for size, places in ((1, []), (2, ["y", "z", "top"]), (3, ["x", "y", "z", "top"]), (8, ["x", "y", "z", "top"])):
            wish = falling(size)
            self.assertEqual(self.check_won(wish, board), places)
            plan = self.check_solve(wish, board, places)
            if places:
                self.assertEqual(plan.choices, {"y": 1})
        board["z"] = [("ab", "z"), ("a", "y")]
        for size in range(1, 9):
            self.assertEqual(self.check_won(falling(size), board), [])
            self.check_solve(falling(size), board, [])

    def test_through_a_place_that_is_not_won_itself(self):
        # To fork the play comes from high in a state that wins there, though fork itself is not won from the start.
        wish = Wish("abc", [[0, 0, 1], [1, 0, 1]], [(1, "a"), (0, "c"), (1, "c")])
        self.assertFalse(needs_notes(wish))
        self.assertEqual(classes(wish), [[0], [1]])
        board = Board.read("high foe c>fork\nfork wisher b>fork ba>fork a>fork")
        self.assertEqual(self.check_won(wish, board), ["high"])
        self.assertEqual(self.check_solve(wish, board, ["high"]).choices, {"fork": 2})
        self.assertTrue(self.check_judge(wish, board, {"fork": 2}, ["high"]))
        self.assertFalse(self.check_judge(wish, board, {"fork": 0}, ["high"]))
        self.assertFalse(self.check_judge(wish, board, {"fork": 1}, ["high"]))

    def test_the_wish_may_need_notes(self):
        board = Board.read("x wisher a>x b>x")
        for wish, places, good in ((seen(), ["x"], []), (twice(), ["x"], [0]), (alike(), ["x"], [0, 1])):
            self.assertTrue(needs_notes(wish))
            self.assertEqual(self.check_won(wish, board), places)
            for choice in (0, 1):
                self.assertEqual(self.check_judge(wish, board, {"x": choice}, places), choice in good)
        fork = Board.read("fork wisher ab>fork ba>fork")
        self.assertEqual(self.check_won(twice(), fork), ["fork"])
        for choice in (0, 1):
            self.assertFalse(self.check_judge(twice(), fork, {"fork": choice}, ["fork"]))
        rising = Board.read("fork wisher a>fork b>end\nend foe b>end")
        self.assertEqual(self.check_won(seen(), rising), ["fork"])
        for choice in (0, 1):
            self.assertFalse(self.check_judge(seen(), rising, {"fork": choice}, ["fork"]))


class RefusedTest(GameCase):
    def refused(self, error, attribute, worth, asked, *told):
        texts = [thing.text() for thing in told[:2]]
        with self.assertRaises(error) as caught:
            asked(*told)
        self.assertIs(type(caught.exception), error)
        self.assertEqual(getattr(caught.exception, attribute), worth)
        self.assertEqual([thing.text() for thing in told[:2]], texts)

    def test_the_first_foreign_letter(self):
        one = Wish("a", [[0]], [(0, "a")])
        for wish, text, letter in (
            (one, "x wisher a>x b>y\ny foe c>y", "b"),
            (one, "x wisher a>x a>y\ny foe ac>y b>y", "c"),
            (one, "x wisher acb>x b>y\ny foe c>y", "c"),
            (one, "z foe ad>z\nb foe b>z\na wisher c>a", "d"),
            (always(), "x wisher abc>x d>x", "c"),
            (always(), "x wisher ab>x ba>x\nfar foe aaad>far c>far", "d"),
            (always(of="abc"), "x wisher abc>x c>x d>x\ny foe a>y", "d"),
        ):
            board = Board.read(text)
            choices = {place: 0 for place in board}
            self.refused(UnknownLetter, "letter", letter, won, wish, board)
            self.refused(UnknownLetter, "letter", letter, solve, wish, board)
            self.refused(UnknownLetter, "letter", letter, judge, wish, board, Plan(choices))

    def test_foreign_letters_on_drawn_boards(self):
        dice = random.Random(21)
        for _ in range(200):
            board = sweeps.drawn_board(dice, dice.randint(1, 4), "aab" + dice.choice(["", "bc", "cd"]), 4, 3)
            letters = dice.choice(["a", "ab", "abc"])
            wish = Wish(letters, [[0] * len(letters)], [(0, "a")])
            text = "".join(word for place in board for word, _ in board[place])
            foreign = [letter for letter in text if letter not in letters]
            if foreign:
                self.refused(UnknownLetter, "letter", foreign[0], won, wish, board)
                self.refused(UnknownLetter, "letter", foreign[0], solve, wish, board)
                self.refused(UnknownLetter, "letter", foreign[0], judge, wish, board, Plan({}))
            else:
                self.assertEqual(won(wish, board), sweeps.won_places(wish, board))

    def test_an_invalid_plan_goes_behind_foreign_letters(self):
        board = Board.read("x wisher a>x c>y\ny foe d>y")
        for choices in ({}, {"x": 2}, {"y": 0}):
            self.refused(UnknownLetter, "letter", "c", judge, always(), board, Plan(choices))
        board["x"] = [("a", "x")]
        self.refused(UnknownLetter, "letter", "d", judge, always(), board, Plan({}))

    def test_plans_that_do_not_fit(self):
        board = Board.read("yard foe a>hall\nhall wisher b>hall b>yard\ncave wisher b>cave")
        for wish in (always(), twice(), seen(), alike(), Wish("ab", [[0, 0]])):
            for choices, place in (
                ({}, "hall"), ({"cave": 0}, "hall"), ({"hall": 1}, "cave"), ({"hall": 2, "cave": 0}, "hall"),
                ({"hall": -1, "cave": 0}, "hall"), ({"hall": 0, "cave": 1}, "cave"), ({"hall": 0, "cave": -1}, "cave"),
                ({"yard": 0, "hall": 0}, "cave"), ({"hall": 9, "cave": 9}, "hall"),
            ):
                self.refused(InvalidPlan, "place", place, judge, wish, board, Plan(choices))

    def test_entries_for_other_names_do_not_matter(self):
        board = Board.read(TEXT)
        self.assertIsNone(judge(always(), board, Plan({"hall": 1, "yard": 7, "cave": -1, "attic": 3})))
        self.assertIsNotNone(judge(always(), board, Plan({"hall": 0, "yard": 7, "cave": -1, "attic": 3})))

    def test_notes_are_needed_before_anything_else(self):
        foreign = Board.read("x wisher d>x c>x")
        for wish, kind in ((alike(), "crossing"), (seen(), "rise"), (twice(), "laps")):
            for board in (foreign, Board(), Board.read(TEXT), Board.read("x foe a>x")):
                self.refused(NotesNeeded, "kind", kind, solve, wish, board)

    def test_the_first_of_several_kinds(self):
        dice = random.Random(210)
        found = set()
        for wish in oracle.drawn_of_all_sizes(dice, 300):
            answers = {"crossing": crossing(wish), "rise": rise(wish), "laps": laps(wish)}
            kinds = tuple(kind for kind, answer in answers.items() if answer is not None)
            found.add(kinds)
            if kinds:
                self.refused(NotesNeeded, "kind", kinds[0], solve, wish, Board.read("x wisher dcba>x"))
            else:
                self.assertEqual(solve(wish, Board.read("x wisher a>x")).choices, {"x": 0})
        self.assertLessEqual({(), ("crossing",), ("rise",), ("laps",), ("crossing", "rise"), ("crossing", "laps")}, found)


class DrawnTest(GameCase):
    def test_drawn_games(self):
        dice = random.Random(22)
        counts = {"solved": 0, "ladders": 0, "mixed": 0, "good": 0, "bad": 0}
        for _ in range(1500):
            wish = drawn_wish(dice)
            board = sweeps.drawn_board(dice, dice.randint(1, 7), wish.letters, dice.randint(1, 4), dice.randint(1, 4))
            places = self.check_won(wish, board)
            counts["mixed"] += 0 < len(places) < len(board)
            if not needs_notes(wish):
                self.check_solve(wish, board, places)
                counts["solved"] += 1
                counts["ladders"] += len(classes(wish)) > 1 and 0 < len(places) < len(board)
            good = self.check_judge(wish, board, drawn_choices(dice, board), places)
            counts["good" if good else "bad"] += 1
        self.assertLess(20, min(counts.values()), counts)

    def test_drawn_ladders(self):
        dice = random.Random(23)
        solved = 0
        while solved < 400:
            wish = sweeps.drawn_ladder(dice)
            if needs_notes(wish) or len(classes(wish)) == 1:
                continue
            wish = sweeps.split(dice, wish, dice.randint(wish.size, 8))
            board = sweeps.drawn_board(dice, dice.randint(2, 6), wish.letters, dice.randint(1, 2), 4)
            self.check_solve(wish, board, self.check_won(wish, board))
            solved += 1

    def test_all_plans_of_small_boards(self):
        dice = random.Random(24)
        for _ in range(60):
            wish = drawn_wish(dice)
            board = sweeps.drawn_board(dice, dice.randint(1, 4), wish.letters, 3, 3)
            places = self.check_won(wish, board)
            good = [self.check_judge(wish, board, choices, places) for choices in sweeps.plans_of(board)]
            if not needs_notes(wish):
                self.assertIn(True, good)

    def test_won_against_all_rules_of_small_games(self):
        # A rule that looks at the pair alone is enough on the pairs; the foe is tried by the search for bad rounds.
        dice = random.Random(25)
        for _ in range(60):
            wish = oracle.drawn(dice, dice.randint(1, 3), "ab", 0.2)
            board = sweeps.drawn_board(dice, dice.randint(1, 3), "ab", 2, 2)
            moves = sweeps.moves_of(wish, board)
            mine = [pair for pair in moves if board.owner(pair[0]) == "wisher"]
            places = set()
            for rule in product(*[range(len(moves[pair])) for pair in mine]):
                kept = {**moves, **{pair: [moves[pair][index]] for pair, index in zip(mine, rule)}}
                places |= {place for place in board if (place, wish.start) not in sweeps.beaten_pairs(kept)}
            self.assertEqual(set(won(wish, board)), places)

    def test_large_boards(self):
        dice = random.Random(26)
        for share, longest in ((0.02, 300), (0.05, 20), (0.1, 3), (0.0, 5)):
            wish = oracle.drawn(dice, 8, "abcd", share)
            board = sweeps.drawn_board(dice, 40, "abcd", longest, 6)
            places = self.check_won(wish, board)
            self.check_judge(wish, board, drawn_choices(dice, board), places)
        for many in (2, 6):
            wish = sweeps.split(dice, always("a", "abcd"), 8)
            board = sweeps.drawn_board(dice, 40, "abcd", 2, many)
            places = self.check_won(wish, board)
            self.check_solve(wish, board, places)
            self.check_judge(wish, board, drawn_choices(dice, board), places)

    def test_the_longest_lost_plays(self):
        # Each round through the ring leads the wish one state on, so a play comes to all 320 pairs.
        rows = [[state, (state + 1) % 8, state] for state in range(8)]
        wish = Wish("abc", rows, [(state, "c") for state in range(8)])
        lines = [f"p{at} foe a>p{at + 1}" for at in range(38)]
        board = Board.read("\n".join([*lines, "p38 wisher b>p0 b>end", "end foe c>end"]))
        self.assertEqual(self.check_won(wish, board), list(board))
        self.assertFalse(self.check_judge(wish, board, {"p38": 0}, list(board)))
        self.assertTrue(self.check_judge(wish, board, {"p38": 1}, list(board)))
        # Here a mark is taken in each round but those in the last state.
        rows = [[state, min(state + 1, 7), state] for state in range(8)]
        late = Wish("abc", rows, [(state, letter) for state in range(7) for letter in "abc"] + [(7, "c")])
        self.assertFalse(self.check_judge(late, board, {"p38": 0}, list(board)))


class ChangesTest(GameCase):
    def test_answers_are_new(self):
        wish, board = always(), Board.read(TEXT)
        won(wish, board).clear()
        self.assertEqual(won(wish, board), ["hall", "yard"])
        plan = solve(wish, board)
        plan.choices.clear()
        self.assertEqual(plan.choices, {"hall": 1})
        loser = Plan({"hall": 0})
        start, moves, cycle = judge(wish, board, loser)
        kept = (start, list(moves), list(cycle))
        moves.append(7)
        cycle.clear()
        self.assertEqual(judge(wish, board, loser), kept)

    def test_behind_changes_of_the_board(self):
        wish, board = always(), Board.read(TEXT)
        old = solve(wish, board)
        board["cave"] = [("b", "hall")]
        self.assertEqual(self.check_won(wish, board), ["hall", "yard", "cave"])
        board["yard"] = [("a", "hall"), ("b", "cave")]
        self.assertEqual(self.check_won(wish, board), [])
        self.check_solve(wish, board, [])
        board.give("yard", "wisher")
        self.assertEqual(self.check_won(wish, board), ["hall", "yard", "cave"])
        self.assertEqual(self.check_solve(wish, board, ["hall", "yard", "cave"]).choices, {"hall": 1, "yard": 0})
        self.assertEqual(old.choices, {"hall": 1})
        with self.assertRaises(InvalidPlan) as caught:
            judge(wish, board, old)
        self.assertEqual(caught.exception.place, "yard")
        board.change([("ways", "hall", [("b", "hall"), ("a", "hall")]), ("give", "cave", "wisher")])
        self.check_solve(wish, board, self.check_won(wish, board))

    def test_behind_changes_of_the_wish(self):
        wish, board = always(), Board.read(TEXT)
        self.assertEqual(self.check_won(wish, board), ["hall", "yard"])
        wish.marks = [(0, "b")]
        self.assertEqual(self.check_won(wish, board), ["hall", "yard", "cave"])
        wish.marks = []
        self.assertEqual(self.check_won(wish, board), [])
        self.assertIsNone(judge(wish, board, Plan({"hall": 0})))
        wish.remark([(0, "a")])
        self.assertIsNotNone(judge(wish, board, Plan({"hall": 0})))
        wish |= always("b")
        self.assertEqual(self.check_won(wish, board), ["hall", "yard", "cave"])
        more = seen()
        with self.assertRaises(NotesNeeded):
            solve(more, board)
        more[1, "b"] = 1
        self.check_solve(more, board, self.check_won(more, board))

    def test_plays_of_a_plan_that_was_found(self):
        dice = random.Random(27)
        for _ in range(50):
            board = sweeps.drawn_board(dice, dice.randint(1, 6), "ab", 3, 3)
            plan = solve(always(), board)
            foe = Plan({place: dice.randrange(len(board[place])) for place in board})
            for start in won(always(), board):
                moves = list(play(board, start, plan, foe, 3 * len(board)))
                # With two plans the play goes round after as many moves as there are places, at the latest.
                self.assertIn("a", sweeps.spelled(moves[len(board):]))


if __name__ == "__main__":
    unittest.main()
