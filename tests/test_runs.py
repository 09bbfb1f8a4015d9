import random
import unittest
from fractions import Fraction

from certificates import known_rows
from graincourse.errors import (
    BrokenRule, InvalidAnswer, InvalidWorths, NothingExpected, NothingLeft, UnknownPiece, UnknownPlayer)
from graincourse.ratios import is_fraction
from graincourse.runs import MOST_SORTS, Run
from graincourse.schemes import Scheme
from graincourse.sure import sure
from graincourse.tableau import least
from model import all_followers
from runmodel import Carried, Wrong
from samples import (
    ALL_KINDS, ASK_TEXT, FOUR_TEXT, HALF_TEXT, LONE_TEXT, MANY, NO_ENVY, nested_asks, valid_schemes)

HALF = Scheme.read(HALF_TEXT)
ASK = Scheme.read(ASK_TEXT)
TWO = [((1, 3), (1, 2)), ((2, 3), (1, 2))]
SINGLE = [((1, 1), (1, 1))]


def equal_sorts(many, players):
    return [((1, many),) * players] * many


def random_sorts(rng, many, players):
    columns = []
    for _ in range(players):
        numbers = [rng.choice([0, 1, 1, 2, 3, 7]) for _ in range(many)]
        numbers[rng.randrange(many)] += 1
        columns.append([Fraction(number, sum(numbers)).as_integer_ratio() for number in numbers])
    return list(zip(*columns))


def pair(value):
    return Fraction(value).as_integer_ratio()


def state_of(run):
    """All that a run tells of itself."""
    return [len(run), run.history(), run.told(), run.broken(), run.pieces(), run.awaited(), run.left(), run.keepers,
            [run.share(player) for player in range(1, run.plan.players + 1)]]


class CheckedTest(unittest.TestCase):
    def compare(self, run, scheme, worths, answers):
        """Whether a run tells what its answers lead to, by the test's own sums, which are returned."""
        carried = Carried(scheme.players, scheme.statements(), worths, answers)
        self.assertEqual([len(run), run.awaited(), run.told()],
                         [len(answers), carried.awaited, tuple(carried.told)])
        self.assertEqual(run.broken(), sorted(carried.broken))
        expected = {name: tuple(pair(part) for part in carried.pieces[name]) for name in sorted(carried.pieces)}
        self.assertEqual(list(run.pieces().items()), list(expected.items()))
        for player in range(1, scheme.players + 1):
            self.assertEqual(run.share(player), pair(carried.share(player)))
            for name, amounts in carried.pieces.items():
                self.assertEqual(run.worth(player, name), pair(carried.worth(player, amounts)))
        told = tuple(carried.told)
        starts = [branch.answers[:len(told)] == told for branch in scheme.branches()]
        self.assertEqual(run.left(), [number for number, start in enumerate(starts) if start])
        return carried

    def raises(self, error, call, *args, **more):
        with self.assertRaises(error) as caught:
            call(*args, **more)
        self.assertIs(caught.exception.__class__, error)
        return caught.exception


class WorthsTest(CheckedTest):
    def test_ordinary(self):
        for worths in (TWO, tuple(TWO), SINGLE, [((1, 1), (0, 1)), ((0, 1), (1, 1))], equal_sorts(7, 2)):
            run = Run(HALF, worths)
            self.assertEqual([len(run), run.keepers, run.history()], [0, (), (0, 0)])

    def test_numbers_of_sorts(self):
        self.assertEqual([MOST_SORTS, Run.SORTS, Run(HALF, TWO).SORTS], [60, 60, 60])
        for many in (1, 2, 59, 60):
            self.assertEqual(Run(HALF, equal_sorts(many, 2)).pieces(), {"whole": ((1, 1),) * many})
        for many in (61, 62, 100):
            self.raises(InvalidWorths, Run, HALF, equal_sorts(many, 2))
        self.raises(InvalidWorths, Run, HALF, [])
        self.raises(InvalidWorths, Run, HALF, ())

    def test_numbers_of_worths(self):
        for worths in ([((1, 1),)], [((1, 1), (1, 1), (1, 1))], [()], [((1, 3), (1, 2)), ((2, 3),)],
                       [((1, 3), (1, 2)), ((2, 3), (1, 2), (0, 1))], [*TWO, ()], [TWO[0]], [*TWO, TWO[0]]):
            self.raises(InvalidWorths, Run, HALF, worths)
        self.raises(InvalidWorths, Run, Scheme(3, []), TWO)
        self.raises(InvalidWorths, Run, Scheme(1, []), TWO)

    def test_wrong_fractions(self):
        for at in (0, 1):
            for worth in [(2, 4), (1, 0), (0, 0), (-1, 2), (1, -2), (-1, -2), (0, 2), (3, 2), (1, 3), (-1, 1)]:
                row = [(1, 2), (1, 2)]
                row[at] = worth
                self.raises(InvalidWorths, Run, HALF, [tuple(row), ((1, 2), (1, 2))])
        # Sums of 1 do not help.
        self.raises(InvalidWorths, Run, HALF, [((-1, 2), (1, 2)), ((3, 2), (1, 2))])
        self.raises(InvalidWorths, Run, HALF, [((2, 4), (1, 2)), ((1, 2), (1, 2))])

    def test_keepers_come_behind(self):
        self.raises(InvalidWorths, Run, HALF, [], keepers=[9])
        for keepers, player in [([0], 0), ([3], 3), ([1, -1, 7], -1), ((2, 6, 0), 6), ([10 ** 29], 10 ** 29)]:
            self.assertEqual(self.raises(UnknownPlayer, Run, HALF, TWO, keepers=keepers).player, player)

    def test_arguments_stay(self):
        worths, keepers = list(TWO), [2, 1, 2]
        run = Run(HALF, worths, keepers=keepers)
        self.assertEqual([worths, keepers], [TWO, [2, 1, 2]])
        worths.clear()
        keepers.clear()
        run.answer(((1, 2), (1, 2)))
        self.assertEqual([run.keepers, run.worth(1, "a"), Run(scheme=HALF, worths=TWO) == Run(HALF, TWO)],
                         [(1, 2), (1, 2), True])


class AnswersTest(CheckedTest):
    def test_example(self):
        run = Run(HALF, TWO, keepers=[1])
        run.answer(((0, 1), (3, 4)))
        self.assertEqual([run.awaited(), run.worth(1, "a"), run.worth(2, "a"), run.left()],
                         [("pick", 2), (1, 2), (3, 8), [0, 1]])
        run = Run(HALF, SINGLE, keepers=[1])
        self.assertEqual(self.raises(BrokenRule, run.answer, ((1, 3),)).player, 1)

    def test_to_the_end(self):
        run = Run(HALF, TWO)
        answers = [((0, 1), (3, 4)), 0]
        self.compare(run, HALF, TWO, [])
        self.assertEqual([run.awaited(), run.told(), run.pieces()], [("cut", 1), (), {"whole": ((1, 1), (1, 1))}])
        run.answer(answers[0])
        self.compare(run, HALF, TWO, answers[:1])
        self.assertEqual(run.pieces(), {"a": ((0, 1), (3, 4)), "b": ((1, 1), (1, 4))})
        run.answer(value=answers[1])
        self.compare(run, HALF, TWO, answers)
        self.assertEqual([run.pieces(), run.awaited(), run.told(), run.broken(), run.left()],
                         [{}, None, (0,), [2], [0]])
        self.assertEqual([run.share(1), run.share(2)], [(1, 2), (3, 8)])

    def test_statements_without_answers(self):
        scheme = Scheme(2, [("give", "whole", 2)])
        run = Run(scheme, TWO)
        self.assertEqual([run.awaited(), run.pieces(), run.share(1), run.share(2), len(run)],
                         [None, {}, (0, 1), (1, 1), 0])
        for value in (0, "yes", "short", (), ((1, 1), (1, 1))):
            self.raises(NothingExpected, run.answer, value)
        self.assertEqual(Run(Scheme(1, []), [((1, 1),)]).pieces(), {"whole": ((1, 1),)})
        scheme = Scheme(2, [("cut", "whole", 2, (1, 2), "b", "a"), ("join", ("a", "b"), "c"),
                            ("ask", 1, "c", (1, 1), "c", (("give", "c", 1),), (("drop", "c"),))])
        run = Run(scheme, TWO)
        run.answer(((1, 3), (0, 1)))
        self.assertEqual([run.awaited(), run.pieces()], [("ask", 1), {"c": ((1, 1), (1, 1))}])
        run.answer("no")
        self.assertEqual([run.awaited(), run.pieces(), run.share(1), run.broken()], [None, {}, (0, 1), [2]])

    def test_nothing_expected_comes_first(self):
        run = Run(HALF, TWO, keepers=[1, 2])
        run.answer(((1, 2), (1, 2)))
        run.answer(1)
        for value in (1, 7, "no", ((2, 4),)):
            self.raises(NothingExpected, run.answer, value)
        self.assertEqual([len(run), run.history()], [2, (2, 0)])

    def test_answers_that_do_not_fit(self):
        run = Run(HALF, TWO)
        for value in (0, 1, "yes", "short", "long", "", (), ((1, 2),), ((1, 2), (1, 2), (1, 2)), ((1, 2), (2, 4)),
                      ((1, 2), (-1, 2)), ((3, 2), (1, 2)), ((1, 0), (1, 2)), ((0, 0), (1, 2)), ((1, 2), (1, -2)),
                      ((10 ** 29 + 1, 10 ** 29), (0, 1)), [(1, 2), (1, 2)], ([1, 2], (1, 2))):
            self.raises(InvalidAnswer, run.answer, value)
            self.compare(run, HALF, TWO, [])
        run.answer(((0, 1), (1, 1)))
        for value in (-1, 2, 3, 10 ** 29, "0", "a", "yes", "short", (), ((1, 2), (1, 2))):
            self.raises(InvalidAnswer, run.answer, value)
            self.compare(run, HALF, TWO, [((0, 1), (1, 1))])
        run.answer(0)
        self.compare(run, HALF, TWO, [((0, 1), (1, 1)), 0])

    def test_more_than_the_piece_has(self):
        run = Run(Scheme(1, [("cut", "whole", 1, (1, 2), "a", "b"), ("cut", "a", 1, (1, 2), "c", "d")]), [((1, 1),)])
        run.answer(((1, 3),))
        for value in [(1, 2), (1, 1), (334, 1000), (333334, 10 ** 6), (-1, 3)]:
            self.raises(InvalidAnswer, run.answer, (value,))
        run.answer(((1, 3),))
        self.assertEqual(run.pieces(), {"b": ((2, 3),), "c": ((1, 3),), "d": ((0, 1),)})

    def test_trims_and_asks(self):
        for value, other in [("short", "long"), (((1, 2), (1, 8)), ((1, 2), (1, 2)))]:
            run = Run(ASK, TWO)
            run.answer(((1, 2), (1, 4)))
            for wrong in ("maybe", "YES", 0, (), "short", ((1, 2), (1, 4))):
                self.raises(InvalidAnswer, run.answer, wrong)
            run.answer("yes")
            self.assertEqual([run.awaited(), run.told(), run.left()], [("trim", 2), ("yes",), [0, 1]])
            for wrong in (other, 0, "yes", (), ((1, 2),), ((1, 2), (1, 3))):
                self.raises(InvalidAnswer, run.answer, wrong)
            run.answer(value)
            answers = [((1, 2), (1, 4)), "yes", value]
            carried = self.compare(run, ASK, TWO, answers)
            self.assertTrue(carried.ended)
            self.assertEqual(run.told(), ("yes", "short" if value == "short" else "long"))

    def test_short_trim(self):
        run = Run(Scheme(2, [("cut", "whole", 1, (1, 2), "a", "b"), ("trim", "a", "b", 2, "c", "d")]), TWO)
        run.answer(((1, 2), (0, 1)))
        run.answer("short")
        self.assertEqual([run.pieces(), run.broken()],
                         [{"b": ((1, 2), (1, 1)), "c": ((1, 2), (0, 1)), "d": ((0, 1), (0, 1))}, [1]])

    def test_ties(self):
        run = Run(Scheme(1, [("cut", "whole", 1, (1, 2), "a", "b"),
                             ("pick", 1, "least", ("a", "b"), ("a", "b")), ("ask", 1, "a", (1, 1), "b", (), ()),
                             ("trim", "a", "b", 1, "a", "c")]), [((1, 1),)], keepers=[1])
        for pick in (0, 1):
            for told in ("yes", "no"):
                for trim in ("short", ((1, 2),)):
                    other = run.clone()
                    for value in (((1, 2),), pick, told, trim):
                        other.answer(value)
                    self.assertEqual([other.broken(), other.awaited()], [[], None])

    def test_breaking_each_rule(self):
        scheme = Scheme(4, [
            ("cut", "whole", 1, (1, 3), "a", "b"), ("trim", "b", "a", 2, "b", "c"),
            ("pick", 3, "greatest", ("a", "b", "c"), ("x", "y", "z")), ("ask", 4, "x", (1, 2), "y", (), ())])
        worths = equal_sorts(1, 4)
        for answers, broken in [
                ([((1, 3),), ((1, 3),), 0, "yes"], []), ([((1, 2),), ((1, 2),), 0, "yes"], [1]),
                ([((1, 3),), ((2, 3),), 1, "yes"], [2]), ([((1, 3),), "short", 1, "yes"], [2]),
                ([((1, 3),), ((1, 6),), 0, "yes"], [2, 3]), ([((1, 3),), ((1, 3),), 0, "no"], [4]),
                ([((0, 1),), "short", 0, "yes"], [1, 2, 3, 4]), ([((3, 4),), "short", 2, "no"], [1, 3]),
                ([((3, 4),), ((1, 4),), 0, "yes"], [1, 2])]:
            run = Run(scheme, worths)
            for at, value in enumerate(answers):
                self.compare(run, scheme, worths, answers[:at])
                run.answer(value)
            self.compare(run, scheme, worths, answers)
            self.assertEqual(run.broken(), broken)

    def test_sixty_sorts(self):
        scheme = Scheme.read(LONE_TEXT)
        worths = equal_sorts(60, 3)
        answers = []
        run = Run(scheme, worths, keepers=[1, 2, 3])
        carried = self.compare(run, scheme, worths, answers)
        while carried.awaited:
            answers.append(carried.keeping())
            run.answer(answers[-1])
            carried = self.compare(run, scheme, worths, answers)
        self.assertEqual([run.share(player) for player in (1, 2, 3)], [(1, 3)] * 3)

    def test_nested_asks(self):
        scheme = Scheme(1, [*nested_asks(20, "yes"), ("give", "whole", 1)])
        run = Run(scheme, [((1, 1),)])
        for many in range(20):
            self.assertEqual([run.told(), run.left()], [("yes",) * many, list(range(21 - many))])
            run.answer("yes")
        self.assertEqual([run.awaited(), run.share(1), run.left()], [None, (1, 1), [0]])

    def test_random(self):
        rng = random.Random(61)
        schemes = [HALF, ASK, Scheme(3, ALL_KINDS), Scheme.read(LONE_TEXT), Scheme(3, NO_ENVY), Scheme(5, MANY),
                   *valid_schemes(120, 67, 200)]
        for scheme in schemes:
            many = rng.choice([1, 2, 3, 5])
            worths = random_sorts(rng, many, scheme.players)
            run, answers = Run(scheme, worths), []
            carried = self.compare(run, scheme, worths, answers)
            while carried.awaited:
                wrong = carried.unfitting(rng)
                try:
                    Carried(scheme.players, scheme.statements(), worths, [*answers, wrong])
                except (Wrong, TypeError):
                    self.raises(InvalidAnswer, run.answer, wrong)
                answers.append(carried.keeping() if rng.random() < 0.5 else carried.fitting(rng))
                run.answer(answers[-1])
                carried = self.compare(run, scheme, worths, answers)


class KeepersTest(CheckedTest):
    def test_refused_answers(self):
        run = Run(HALF, TWO, keepers=[1, 2])
        run.answer(((1, 2), (1, 2)))
        run.answer(1)
        run.undo()
        run.undo()
        before = state_of(run)
        for value in (((1, 1), (1, 1)), ((0, 1), (0, 1)), ((1, 2), (501, 1000)), ((1, 1), (1, 2))):
            self.assertEqual(self.raises(BrokenRule, run.answer, value).player, 1)
            self.assertEqual(state_of(run), before)
        # An answer that does not fit is that, whoever gives it; refused ones do not end redo.
        self.raises(InvalidAnswer, run.answer, ((1, 1),))
        self.assertEqual(run.history(), (0, 2))
        run.answer(((1, 1), (1, 4)))
        self.assertEqual(run.history(), (1, 0))
        self.assertEqual(self.raises(BrokenRule, run.answer, 1).player, 2)
        run.answer(0)
        self.assertEqual([run.broken(), run.told()], [[], (0,)])

    def test_others_may_break_rules(self):
        run = Run(HALF, TWO, keepers=[2])
        run.answer(((1, 1), (1, 1)))
        self.assertEqual([run.broken(), run.keepers], [[1], (2,)])
        self.raises(BrokenRule, run.answer, 1)

    def test_setting(self):
        run = Run(HALF, TWO)
        for players, keepers in [([2, 1, 2, 2], (1, 2)), ((2,), (2,)), ([], ()), ((1, 1), (1,)), ([1, 2], (1, 2))]:
            run.keepers = players
            self.assertEqual(run.keepers, keepers)
            run.set_keepers([])
            self.assertEqual(run.keepers, ())
            self.assertIsNone(run.set_keepers(players=players))
            self.assertEqual(run.keepers, keepers)

    def test_wrong_settings(self):
        scheme = Scheme(3, [("cut", "whole", 3, (1, 2), "a", "b"), ("cut", "a", 2, (1, 2), "c", "d")])
        run = Run(scheme, equal_sorts(2, 3), keepers=[1])
        run.answer(((1, 1), (1, 1)))
        run.answer(((1, 1), (1, 1)))
        self.assertEqual(run.broken(), [2, 3])

        def assign(players):
            run.keepers = players

        for call in (assign, run.set_keepers):
            for players, player in [([2, 4, 0], 4), ([3, 2, -1], -1), ([9], 9), ((1, 0, 5), 0)]:
                self.assertEqual(self.raises(UnknownPlayer, call, players).player, player)
                self.assertEqual(run.keepers, (1,))
            for players, player in [([3, 2], 2), ([3], 3), ([1, 3], 3), ((3, 1, 2), 2), ([2, 2], 2)]:
                self.assertEqual(self.raises(BrokenRule, call, players).player, player)
                self.assertEqual(run.keepers, (1,))

    def test_setting_behind_undo(self):
        run = Run(HALF, TWO)
        run.answer(((1, 1), (1, 1)))
        self.raises(BrokenRule, run.set_keepers, [1])
        run.undo()
        run.set_keepers([1])
        before = state_of(run)
        self.assertEqual(self.raises(BrokenRule, run.redo).player, 1)
        self.assertEqual([state_of(run), run.history()], [before, (0, 1)])
        run.set_keepers([2])
        run.redo()
        self.assertEqual([run.broken(), run.history(), run.keepers], [[1], (1, 0), (2,)])

    def test_list_that_was_set_stays(self):
        players = [2, 1]
        run = Run(HALF, TWO)
        run.keepers = players
        players.append(7)
        self.assertEqual([run.keepers, players], [(1, 2), [2, 1, 7]])


class HistoryTest(CheckedTest):
    def test_both_ends(self):
        run = Run(HALF, TWO)
        self.raises(NothingLeft, run.undo)
        self.raises(NothingLeft, run.redo)
        run.answer(((1, 2), (1, 2)))
        self.raises(NothingLeft, run.redo)
        run.undo()
        self.raises(NothingLeft, run.undo)
        run.redo()
        self.raises(NothingLeft, run.redo)
        self.assertEqual(run.history(), (1, 0))

    def test_states(self):
        run, answers = Run(HALF, TWO), [((1, 2), (1, 2)), 1]
        for value in answers:
            run.answer(value)
        for many, history in [(1, (1, 1)), (0, (0, 2))]:
            run.undo()
            self.compare(run, HALF, TWO, answers[:many])
            self.assertEqual(run.history(), history)
        for many, history in [(1, (1, 1)), (2, (2, 0))]:
            run.redo()
            self.compare(run, HALF, TWO, answers[:many])
            self.assertEqual(run.history(), history)

    def test_new_answer_ends_redo(self):
        for value in (((1, 2), (1, 2)), ((0, 1), (1, 1))):
            run = Run(HALF, TWO)
            run.answer(((1, 2), (1, 2)))
            run.answer(1)
            run.undo()
            run.undo()
            run.answer(value)
            self.assertEqual(run.history(), (1, 0))
            self.raises(NothingLeft, run.redo)

    def test_refused_answers_do_not_end_redo(self):
        run = Run(HALF, TWO)
        run.answer(((1, 2), (1, 2)))
        run.undo()
        self.raises(InvalidAnswer, run.answer, "short")
        self.assertEqual(run.history(), (0, 1))
        run.redo()
        self.assertEqual(run.history(), (1, 0))

    def test_clones(self):
        run = Run(HALF, TWO, keepers=[1])
        run.answer(((1, 2), (1, 2)))
        run.answer(0)
        run.undo()
        other = run.clone()
        self.assertEqual([state_of(other), other == run, other is run], [state_of(run), True, False])
        before = state_of(run)
        other.redo()
        other.keepers = [2]
        self.assertEqual([state_of(run), other.history(), other.keepers], [before, (2, 0), (2,)])
        other.undo()
        other.undo()
        other.keepers = []
        other.answer(((1, 1), (1, 1)))
        self.assertEqual([state_of(run), other.broken()], [before, [1]])
        state = state_of(other)
        run.redo()
        run.undo()
        run.undo()
        self.assertEqual([state_of(other), run.history()], [state, (0, 2)])

    def test_random(self):
        rng = random.Random(71)
        for scheme in (HALF, ASK, Scheme(3, ALL_KINDS), Scheme.read(FOUR_TEXT)):
            worths = random_sorts(rng, 2, scheme.players)
            runs = [(Run(scheme, worths), [], [])]
            for _ in range(60):
                run, given, undone = rng.choice(runs)
                self.step(rng, scheme, worths, run, given, undone)
                if len(runs) < 3 and rng.random() < 0.1:
                    runs.append((run.clone(), list(given), list(undone)))
                for each, answers, again in runs:
                    self.compare(each, scheme, worths, answers)
                    self.assertEqual(each.history(), (len(answers), len(again)))

    def step(self, rng, scheme, worths, run, given, undone):
        carried = Carried(scheme.players, scheme.statements(), worths, given)
        word = rng.choice(["answer", "answer", "undo", "redo"])
        if word == "answer" and carried.awaited:
            given.append(carried.fitting(rng))
            run.answer(given[-1])
            undone.clear()
        elif word == "undo" and given:
            undone.append(given.pop())
            run.undo()
        elif word == "redo" and undone:
            given.append(undone.pop())
            run.redo()


class EqualTest(unittest.TestCase):
    def test_equal(self):
        one, other = Run(HALF, TWO, keepers=[1]), Run(Scheme.read(HALF_TEXT), tuple(TWO))
        self.assertTrue(one == other)
        one.answer(((1, 2), (1, 2)))
        self.assertFalse(one == other)
        other.answer(((0, 1), (3, 4)))
        self.assertTrue(one != other)
        other.undo()
        other.answer(((1, 2), (1, 2)))
        self.assertTrue(one == other)
        one.answer(1)
        one.undo()
        # Neither keepers nor what can be redone count.
        self.assertTrue(one == other)
        self.assertNotEqual([one.keepers, one.history()], [other.keepers, other.history()])

    def test_not_equal(self):
        run = Run(HALF, TWO)
        self.assertFalse(run == Run(HALF, TWO[::-1]))
        self.assertFalse(run == Run(ASK, TWO))
        self.assertFalse(run == Run(HALF, SINGLE))

    def test_other_values(self):
        class Any:
            def __eq__(self, other):
                return True

        run = Run(HALF, TWO)
        for value in (None, 0, "", [], (), HALF, TWO, (HALF, TWO, []), Any()):
            self.assertFalse(run == value)
            self.assertTrue(run != value)


class QuestionsTest(CheckedTest):
    def test_errors(self):
        run = Run(HALF, TWO)
        for player in (0, 3, -1, 10 ** 29):
            for call in (run.share, run.sure_now, run.due_now, lambda player: run.worth(player, "whole"),
                         lambda player: run.worth(player, "nothing"), lambda player: run.sure_now(player, honest=True)):
                self.assertEqual(self.raises(UnknownPlayer, call, player).player, player)
        for name in ("a", "", "whole ", "Whole", "whole.1"):
            self.assertEqual(self.raises(UnknownPiece, run.worth, 1, name).name, name)
        run.answer(((1, 2), (1, 2)))
        self.assertEqual(self.raises(UnknownPiece, run.worth, player=2, name="whole").name, "whole")
        self.assertEqual(run.worth(player=2, name="b"), (1, 2))

    def test_broken_rules(self):
        scheme = Scheme(3, [("cut", "whole", 3, (1, 2), "a", "b"), ("cut", "a", 2, (1, 2), "c", "d"),
                            ("give", "c", 1), ("give", "d", 2), ("give", "b", 3)])
        run = Run(scheme, equal_sorts(2, 3))
        run.answer(((1, 1), (1, 1)))
        self.assertEqual([run.sure_now(1), run.due_now(1), run.sure_now(2)], [(0, 1), (0, 1), (0, 1)])
        self.assertEqual([run.due_now(2), self.raises(BrokenRule, run.due_now, 3).player], [(1, 2), 3])
        for player in (1, 2, 3):
            self.assertEqual(self.raises(BrokenRule, run.sure_now, player, honest=True).player, 3)
        run.answer(((1, 1), (1, 1)))
        for player in (2, 3):
            self.assertEqual(self.raises(BrokenRule, run.sure_now, player).player, player)
            self.assertEqual(self.raises(BrokenRule, run.due_now, player).player, player)
        for player in (1, 2, 3):
            self.assertEqual(self.raises(BrokenRule, run.sure_now, player, honest=True).player, 2)
        for player in (0, 4):
            self.assertEqual(self.raises(UnknownPlayer, run.sure_now, player, honest=True).player, player)
            self.assertEqual(self.raises(UnknownPlayer, run.due_now, player).player, player)
        self.assertEqual([run.sure_now(1), run.due_now(1)], [(0, 1), (1, 1)])

    def test_by_hand(self):
        run = Run(HALF, TWO)
        self.assertEqual([run.sure_now(1), run.sure_now(2), run.due_now(1), run.due_now(2)], [(1, 2)] * 4)
        run.answer(((0, 1), (3, 4)))
        self.assertEqual([run.sure_now(1), run.sure_now(2), run.due_now(1), run.due_now(2)],
                         [(1, 2), (1, 2), (1, 2), (5, 8)])
        run.answer(1)
        self.assertEqual([run.sure_now(1), run.sure_now(2), run.due_now(1), run.due_now(2)],
                         [(1, 2), (1, 2), (1, 2), (5, 8)])
        run = Run(ASK, TWO)
        self.assertEqual([run.sure_now(1), run.sure_now(1, honest=True), run.sure_now(player=1, honest=False)],
                         [(0, 1), (1, 2), (0, 1)])
        run.answer(((2, 3), (0, 1)))
        self.assertEqual([run.broken(), run.due_now(1), run.due_now(player=2)], [[], (7, 9), (1, 3)])
        run.answer("no")
        self.assertEqual([run.sure_now(1), run.due_now(1), run.share(1)], [(1, 2), (7, 9), (7, 9)])

    def test_only_the_branches_left(self):
        scheme = Scheme(2, [("ask", 2, "whole", (1, 1), "whole", (("give", "whole", 1),), (("give", "whole", 2),))])
        run = Run(scheme, SINGLE)
        self.assertEqual([run.sure_now(1), run.due_now(1)], [(0, 1), (0, 1)])
        for told, value in [("yes", (1, 1)), ("no", (0, 1))]:
            run.answer(told)
            self.assertEqual([run.sure_now(1), run.sure_now(1, honest=True), run.due_now(1)], [value] * 3)
            run.undo()

    def test_sure_now_without_answers_is_sure(self):
        for scheme in (HALF, ASK, Scheme(3, ALL_KINDS), Scheme(3, NO_ENVY)):
            run = Run(scheme, equal_sorts(3, scheme.players))
            for player in range(1, scheme.players + 1):
                for honest in (False, True):
                    self.assertEqual(run.sure_now(player, honest=honest), sure(scheme, player, honest=honest).value)

    def test_questions_change_nothing(self):
        run = Run(HALF, TWO, keepers=[1])
        run.answer(((0, 1), (3, 4)))
        before = state_of(run)
        for _ in range(2):
            run.sure_now(1)
            run.due_now(2)
            run.pieces().clear()
            run.left().clear()
            run.broken().append(2)
            run.clone().answer(0)
            self.assertEqual(state_of(run), before)

    def test_random(self):
        rng = random.Random(73)
        for scheme in [ASK, Scheme(3, ALL_KINDS), *valid_schemes(80, 79, 12)]:
            worths = random_sorts(rng, 3, scheme.players)
            run, answers = Run(scheme, worths), []
            carried = Carried(scheme.players, scheme.statements(), worths, answers)
            due = {player: Fraction(0) for player in range(1, scheme.players + 1)}
            while True:
                self.check_values(run, scheme, carried, due)
                if not carried.awaited:
                    break
                answers.append(carried.keeping() if rng.random() < 0.7 else carried.fitting(rng))
                run.answer(answers[-1])
                carried = Carried(scheme.players, scheme.statements(), worths, answers)

    def check_values(self, run, scheme, carried, due):
        followers = all_followers(scheme.statements())
        for player in range(1, scheme.players + 1):
            if player in carried.broken:
                self.raises(BrokenRule, run.sure_now, player)
                self.raises(BrokenRule, run.due_now, player)
                continue
            known = [(piece, pair(carried.worth(player, amounts))) for piece, amounts in enumerate(carried.made)]
            values = []
            for rows in ([], known):
                found = []
                for number in run.left():
                    follower = followers[number]
                    weights = [int(holder == player) for holder in follower.holders()]
                    equations = [*follower.equations(player), *known_rows(follower, rows)]
                    result = least(equations, follower.comparisons(player), weights)
                    found += [Fraction(*result[1])] if result[0] == "met" else []
                values.append(min(found))
            told = [run.sure_now(player), run.due_now(player)]
            self.assertEqual([Fraction(*value) for value in told], values)
            self.assertTrue(all(is_fraction(value) for value in told))
            # What is due never falls while the player keeps the rules, and is paid out in the end.
            self.assertTrue(values[1] >= values[0] and values[1] >= due[player])
            due[player] = values[1]
            if not carried.awaited:
                self.assertEqual(values[1], carried.share(player))


class ReplayTest(CheckedTest):
    def check(self, scheme, place, grains, keepers=()):
        """The finished run, whose pieces have the sorts whose ways contain them."""
        before = list(grains)
        run = Run.replay(scheme, place, grains, keepers=keepers)
        self.assertEqual(grains, before)
        branch = list(scheme.branches())[place]
        self.assertEqual([run.awaited(), run.told(), run.left(), run.keepers],
                         [None, branch.answers, [place], tuple(keepers)])
        worths = [row for way, row in grains]
        answers = [step for step in branch.steps if step[0] in ("cut", "trim", "pick", "ask")]
        self.assertEqual([len(run), run.history()], [len(answers), (len(answers), 0)])
        for player in range(1, scheme.players + 1):
            got = sum((Fraction(*row[player - 1]) for way, row in grains if branch.holders()[way[-1]] == player),
                      Fraction(0))
            self.assertEqual(run.share(player), pair(got))
        while run.history()[0]:
            run.undo()
        self.assertEqual([run.pieces(), run == Run(scheme, worths)], [Run(scheme, worths).pieces(), True])
        while run.history()[1]:
            run.redo()
        self.assertTrue(run == Run.replay(scheme=scheme, place=place, grains=tuple(grains)))
        return run

    def test_answers(self):
        for scheme in (HALF, ASK, Scheme(3, ALL_KINDS), Scheme.read(LONE_TEXT), Scheme.read(FOUR_TEXT)):
            for player in range(1, scheme.players + 1):
                answer = sure(scheme, player)
                run = self.check(scheme, answer.place, answer.grains, [player])
                self.assertEqual(run.share(player), answer.value)
                answer = sure(scheme, player, honest=True)
                run = self.check(scheme, answer.place, answer.grains, range(1, scheme.players + 1))
                self.assertEqual([run.share(player), run.broken()], [answer.value, []])

    def test_many_branches(self):
        scheme = Scheme(5, MANY)
        answer = sure(scheme, 3, honest=True)
        self.check(scheme, answer.place, answer.grains, [1, 2, 3, 4, 5])

    def test_by_hand(self):
        grains = [((0, 1), ((1, 2), (1, 3))), ((0, 2), ((1, 4), (1, 3))), ((0, 1), ((0, 1), (0, 1))),
                  ((0, 2), ((1, 4), (1, 3)))]
        run = self.check(HALF, 1, grains)
        run.undo()
        self.assertEqual(run.pieces(), {"a": ((1, 1), (0, 1), (1, 1), (0, 1)), "b": ((0, 1), (1, 1), (0, 1), (1, 1))})
        run.redo()
        self.assertEqual([run.share(1), run.share(2), run.broken()], [(1, 2), (2, 3), []])
        grains = [((0, 1, 3), ((1, 1), (0, 1))), ((0, 2), ((0, 1), (1, 1)))]
        run = self.check(ASK, 1, grains)
        self.assertEqual([run.told(), run.broken()], [("yes", "short"), [2]])
        self.assertEqual(self.check(ASK, 0, [((0, 1, 4), ((1, 1), (1, 1)))]).broken(), [2])

    def test_wrong_places_and_grains(self):
        grains = [((0, 1), ((1, 2), (1, 3))), ((0, 2), ((1, 2), (2, 3)))]
        for place in (-1, 2, 200, -10 ** 29):
            self.raises(InvalidWorths, Run.replay, HALF, place, grains)
            self.raises(InvalidWorths, Run.replay, HALF, place, grains, keepers=[9])
        for wrong in ([], grains[:1], [*grains, grains[0]], [((0, 3), grains[0][1]), grains[1]],
                      [((), grains[0][1]), grains[1]], [((0, -1), grains[0][1]), grains[1]],
                      [((0, 1), ((2, 4), (1, 3))), grains[1]], [((0, 1), ((1, 2),)), grains[1]],
                      [((0, 1), ((1, 0), (1, 3))), grains[1]], [((0, 1), ((1, 2), (1, 3), (0, 1))), grains[1]]):
            self.raises(InvalidWorths, Run.replay, HALF, 0, wrong)
            self.raises(InvalidWorths, Run.replay, HALF, 0, wrong, keepers=[0])
        self.raises(InvalidWorths, Run.replay, ASK, 1, [((0, 1, 4), ((1, 1), (1, 1)))])

    def test_numbers_of_grains(self):
        for many in (59, 60, 61, 62):
            grains = [((0, 1 + index % 2), ((1, many), (1, many))) for index in range(many)]
            if many <= 60:
                self.check(HALF, 0, grains)
            else:
                self.raises(InvalidWorths, Run.replay, HALF, 0, grains)
                self.raises(InvalidWorths, Run.replay, HALF, 0, grains, keepers=[5])

    def test_keepers(self):
        grains = [((0, 1), ((1, 2), (1, 3))), ((0, 2), ((1, 2), (2, 3)))]
        self.assertEqual(self.raises(UnknownPlayer, Run.replay, HALF, 0, grains, keepers=[2, 3, 0]).player, 3)
        self.assertEqual(self.raises(BrokenRule, Run.replay, HALF, 0, grains, keepers=[1, 2]).player, 2)
        self.assertEqual(Run.replay(HALF, 0, grains, keepers=[1, 1]).keepers, (1,))
        self.assertEqual(Run.replay(HALF, 0, grains).broken(), [2])
        wrong = [((0, 1), ((1, 3), (1, 3))), ((0, 2), ((2, 3), (2, 3)))]
        # The cut of player 1 comes before the pick of player 2.
        self.assertEqual(self.raises(BrokenRule, Run.replay, HALF, 0, wrong, keepers=[2, 1]).player, 1)


if __name__ == "__main__":
    unittest.main()
