"""What the document promises over the whole program: see its point 2."""

import inspect
import unittest

from graincourse.console import Console
from graincourse.documents import document, read_document
from graincourse.grains import are_grains, keeps, split_flow, worths_of
from graincourse.runs import Run
from graincourse.schemes import Scheme, own_weights
from graincourse.sheets import Bound, Sheet, Shut
from graincourse.shelf import Shelf
from graincourse.sure import check_grains, check_sheets, lead, span, sure
from samples import ASK_TEXT, HALF_TEXT, LONE_TEXT, nested_asks

HALF = Scheme.read(HALF_TEXT)
FIRST = list(HALF.branches())[0]
TWO = [((1, 3), (1, 2)), ((2, 3), (1, 2))]


def names_of(function):
    """The parameters that may be passed by position, and those that are keyword-only."""
    parameters = list(inspect.signature(function).parameters.values())
    plain = [each.name for each in parameters if each.kind == each.POSITIONAL_OR_KEYWORD]
    return plain, [each.name for each in parameters if each.kind == each.KEYWORD_ONLY]


class ArgumentsTest(unittest.TestCase):
    def test_keyword_only(self):
        for function, plain, keywords in [
                (sure, ["scheme", "player", "weights"], ["honest"]), (lead, ["scheme", "one", "other"], ["honest"]),
                (span, ["scheme", "player"], ["honest"]),
                (check_sheets, ["scheme", "player", "weights", "value", "sheets"], ["honest"]),
                (check_grains, ["scheme", "player", "weights", "value", "place", "grains"], ["honest"]),
                (Bound([], [], (0, 1)).holds, ["branch", "player", "weights"], ["known"]),
                (Shut([], [], 1).holds, ["branch"], ["known"]), (Run, ["scheme", "worths"], ["keepers"]),
                (Run.replay, ["scheme", "place", "grains"], ["keepers"]),
                (Run(HALF, TWO).sure_now, ["player"], ["honest"]), (Run(HALF, TWO).due_now, ["player"], []),
                (Sheet([], []).fits, ["branch", "player", "known"], []), (Console, ["shelf"], [])]:
            self.assertEqual(names_of(function), (plain, keywords))

    def test_one_too_many_by_position(self):
        for call in (lambda: sure(HALF, 1, None, True), lambda: lead(HALF, 1, 2, True), lambda: span(HALF, 1, True),
                     lambda: Run(HALF, TWO, [1]), lambda: Run(HALF, TWO).sure_now(1, True),
                     lambda: Bound([], [], (0, 1)).holds(FIRST, 1, (0, 1, 0), ()),
                     lambda: Shut([], [], 1).holds(FIRST, ())):
            self.assertRaises(TypeError, call)

    def test_lists_and_tuples(self):
        answer = sure(HALF, 1, honest=True)
        for kind in (list, tuple):
            weights = kind((0, 1, 0))
            self.assertEqual(sure(HALF, 1, weights, honest=True).grains, answer.grains)
            self.assertTrue(check_sheets(HALF, 1, weights, answer.value, kind(answer.sheets), honest=True))
            self.assertTrue(check_grains(HALF, 1, weights, answer.value, 0, kind(answer.grains), honest=True))
            self.assertTrue(are_grains(FIRST, 2, kind(answer.grains)))
            point = worths_of(FIRST, kind(answer.grains), 1)
            self.assertEqual([keeps(FIRST, 1, kind(point)), split_flow(FIRST, kind(point))],
                             [True, split_flow(FIRST, point)])
            self.assertEqual(FIRST.weighted(kind(weights)), [0, 0, 1])
            known = kind([(1, (1, 2))])
            self.assertEqual(FIRST.equations(1, known), FIRST.equations(1, [(1, (1, 2))]))
            self.assertEqual(Sheet(kind([(1, 2)]), kind([(0, 1)])).numbers(), [(1, 2), (0, 1)])
            run = Run(HALF, kind(TWO), keepers=kind([2, 1]))
            run.keepers = kind([1])
            self.assertEqual(run.keepers, (1,))
            shelf = Shelf()
            shelf.define("half", 2, kind(HALF.statements()))
            shelf.batch(("define", "other", 2, kind(HALF.statements())))
            self.assertTrue(shelf.scheme("half") == HALF and shelf.scheme("other") == HALF)
            self.assertEqual(Run.replay(HALF, 0, kind(answer.grains)).share(1), (1, 2))


class InTurnTest(unittest.TestCase):
    def test_runs(self):
        one, other = Run(HALF, TWO, keepers=[1]), Run(HALF, TWO)
        one.answer(((1, 2), (1, 2)))
        other.answer(((1, 1), (1, 1)))
        one.answer(0)
        other.undo()
        self.assertEqual([one.history(), other.history(), one.told(), other.told(), one.broken(), other.broken()],
                         [(2, 0), (0, 1), (0,), (), [], []])
        other.redo()
        self.assertEqual([one.share(2), other.pieces()],
                         [(1, 2), {"a": ((1, 1), (1, 1)), "b": ((0, 1), (0, 1))}])

    def test_shelves(self):
        one, other = Shelf(), Shelf()
        one.define_text("half", HALF_TEXT)
        other.define_text("ask", ASK_TEXT)
        one.undo()
        other.define_text("half", ASK_TEXT)
        one.redo()
        self.assertEqual([one.listing(), other.listing(), one.history(), other.history()],
                         [["half"], ["ask", "half"], (1, 0), (2, 0)])
        self.assertEqual([one.outline_text("half"), other.outline_text("half")], [HALF_TEXT, ASK_TEXT])

    def test_a_shelf_and_its_schemes(self):
        shelf = Shelf()
        shelf.define_text("half", HALF_TEXT)
        scheme, outline = shelf.scheme("half"), shelf.outline("half")
        run = Run(scheme, TWO)
        shelf.define_text("half", ASK_TEXT)
        shelf.drop("half")
        run.answer(((1, 2), (1, 2)))
        self.assertEqual([scheme.text(), outline, run.awaited()],
                         [HALF_TEXT, (2, tuple(HALF.statements())), ("pick", 2)])

    def test_sure_between_other_calls(self):
        told = [sure(HALF, 1).value, sure(Scheme.read(ASK_TEXT), 1).value]
        for _ in range(2):
            self.assertEqual([sure(HALF, 1).value, sure(Scheme.read(ASK_TEXT), 1).value], told)


class NestedTest(unittest.TestCase):
    """Asks that are nested twenty deep, through all of the program."""

    def test_twenty_deep(self):
        for side, told in (("yes", "yes"), ("no", "no")):
            statements = [*nested_asks(20, side), ("give", "whole", 2)]
            shelf = Shelf()
            shelf.define("deep", 2, statements)
            shelf = read_document(document(shelf))
            scheme = shelf.scheme("deep")
            self.assertTrue(Scheme.read(scheme.text()) == scheme == Scheme(2, statements))
            console = Console(shelf)
            self.assertEqual([console.execute(line) for line in ("size deep", "sure deep 2", "keep deep 1",
                                                                 "lead deep 1 2", "show deep")],
                             ["21", "1", "0", "-1", scheme.text()])
            for honest in (False, True):
                answer = sure(scheme, 1, (0, 0, -5), honest=honest)
                self.assertEqual(answer.value, (-5, 1))
                self.assertTrue(check_sheets(scheme, 1, (0, 0, -5), (-5, 1), answer.sheets, honest=honest))
                self.assertTrue(
                    check_grains(scheme, 1, (0, 0, -5), (-5, 1), answer.place, answer.grains, honest=honest))
            run = Run(scheme, TWO)
            for _ in range(20):
                run.answer(told)
            self.assertEqual([run.told(), run.share(2), run.broken(), len(run.left())],
                             [(told,) * 20, (1, 1), [1] if side == "no" else [], 1])
            if side == "yes":
                self.assertEqual([run.sure_now(2), run.due_now(1)], [(1, 1), (0, 1)])
            run = Run.replay(scheme, 20, [((0,), ((1, 1), (1, 1)))])
            self.assertEqual([run.left(), run.history()], [[20], (1 if side == "yes" else 20, 0)])


class WholeTest(unittest.TestCase):
    def test_from_a_text_to_a_run(self):
        """A scheme for three players is defined, asked about, and carried out so that nobody gets more than is sure."""
        console = Console()
        console.execute(f"define lone {LONE_TEXT}")
        lines = [f"{word} lone {player}" for word in ("sure", "keep") for player in (1, 2, 3)]
        self.assertEqual([console.execute(line) for line in lines], ["1/3"] * 6)
        scheme = console.shelf_there().scheme("lone")
        for player in (1, 2, 3):
            answer = sure(scheme, player, honest=True)
            run = Run.replay(scheme, answer.place, answer.grains, keepers=[1, 2, 3])
            self.assertEqual([run.share(player), run.broken()], [answer.value, []])
            while run.history()[0]:
                run.undo()
                self.assertEqual(run.sure_now(player), (1, 3))
                self.assertLessEqual(run.due_now(player)[0] * 3, run.due_now(player)[1])

    def test_own_weights_are_the_default(self):
        for player in (1, 2):
            self.assertEqual(sure(HALF, player).value, sure(HALF, player, own_weights(HALF, player)).value)


if __name__ == "__main__":
    unittest.main()
