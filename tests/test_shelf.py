import random
import unittest

from graincourse.errors import (
    Cycle, GrainError, InUse, InvalidCommand, InvalidName, InvalidStatement, MissingError, NothingLeft, ParseError,
    TooLarge, Unfit, UnknownName, UnknownPlayer)
from graincourse.schemes import Scheme
from graincourse.shelf import MOST_NAMES, Shelf
from samples import ALL_KINDS, ALL_KINDS_TEXT, HALF_TEXT, ask, nested_asks
from shelfmodel import Refused, ShelfModel

HALF = Scheme.read(HALF_TEXT).statements()
BOTH_TEXT = "players 3; cut whole by 3 at 1/3 into c, d; give c to 3; use half for 2, 1 on d"
BOTH = [("cut", "whole", 3, (1, 3), "c", "d"), ("give", "c", 3), ("use", "half", (2, 1), "d")]
GIVE = ("give", "whole", 1)
CUT = ("cut", "whole", 1, (1, 2), "a", "b")
TIE = ("ask", 1, "whole", (1, 1), "whole", (), ())


def use(name, players=(1,), piece="whole"):
    return ("use", name, tuple(players), piece)


def shelf_with(**outlines):
    """A shelf with outlines for one player, in the order in which they are passed."""
    shelf = Shelf()
    for name, statements in outlines.items():
        shelf.define(name, 1, statements)
    return shelf


def state_of(shelf):
    """All that a shelf tells of itself."""
    names = shelf.listing()
    told = [[shelf.outline(name), shelf.outline_text(name), shelf.scheme(name).text(), shelf.users(name)]
            for name in names]
    return [len(shelf), names, list(shelf.in_order()), told, shelf.history()]


class CheckedTest(unittest.TestCase):
    def raises(self, error, field, call, *args, **more):
        with self.assertRaises((GrainError, MissingError)) as caught:
            call(*args, **more)
        self.assertIs(caught.exception.__class__, error, args)
        if field is not None:
            name = {InvalidStatement: "place", TooLarge: "limit", UnknownPlayer: "player", ParseError: "place",
                    InvalidCommand: "index"}.get(error, "name")
            self.assertEqual(getattr(caught.exception, name), field, args)

    def refuses(self, shelf, error, field, *command):
        """Whether each way to define or drop an outline raises the error and changes nothing."""
        before = state_of(shelf)
        word, *rest = command
        self.raises(error, field, getattr(shelf, word), *rest)
        self.raises(error, field, shelf.batch, command)
        self.raises(error, field, shelf.preview, command)
        self.assertEqual(state_of(shelf), before)


class ExamplesTest(CheckedTest):
    def test_example(self):
        shelf = Shelf()
        shelf.define_text("half", HALF_TEXT)
        shelf.define_text("both", BOTH_TEXT)
        self.assertEqual([shelf.scheme("both").statements()[2], list(shelf.in_order()), shelf.users("half")],
                         [("cut", "d", 2, (1, 2), "a.1", "b.1"), ["half", "both"], ["both"]])
        self.raises(Cycle, "a", Shelf().define, "a", 1, [use("a")])

    def test_constants(self):
        self.assertEqual([MOST_NAMES, Shelf.NAMES, Shelf().NAMES], [8, 8, 8])

    def test_empty(self):
        self.assertEqual(state_of(Shelf()), [0, [], [], [], (0, 0)])

    def test_questions(self):
        shelf = Shelf()
        shelf.define(name="half", players=2, statements=HALF)
        shelf.define_text(name="both", text=BOTH_TEXT)
        self.assertEqual(state_of(shelf)[:3], [2, ["both", "half"], ["half", "both"]])
        self.assertEqual([shelf.outline(name="half"), shelf.outline("both")], [(2, tuple(HALF)), (3, tuple(BOTH))])
        self.assertEqual([shelf.outline_text(name="half"), shelf.outline_text("both")], [HALF_TEXT, BOTH_TEXT])
        self.assertEqual([shelf.users(name="half"), shelf.users("both")], [["both"], []])
        self.assertTrue(shelf.scheme(name="half") == Scheme(2, HALF))
        self.assertEqual(shelf.scheme("both").text(), (
            "players 3; cut whole by 3 at 1/3 into c, d; give c to 3; cut d by 2 at 1/2 into a.1, b.1; "
            "pick greatest of a.1, b.1 by 1 as x.1, y.1; give x.1 to 1; give y.1 to 2"))

    def test_unknown_names(self):
        shelf = shelf_with(a=[GIVE])
        for name in ("b", "", "A", "a ", "aaaaaaaaa", "a.1", "a\n"):
            for call in (shelf.outline, shelf.outline_text, shelf.scheme, shelf.users):
                self.raises(UnknownName, name, call, name)
            self.refuses(shelf, UnknownName, name, "drop", name)

    def test_returned_and_passed_lists(self):
        statements = [CUT, ("give", "a", 1)]
        shelf = shelf_with(a=statements, b=[use("a")])
        before = state_of(shelf)
        statements.clear()
        shelf.listing().clear()
        shelf.users("a").clear()
        shelf.scheme("b").statements().clear()
        list(shelf.in_order()).clear()
        shelf.preview().clear()
        self.assertEqual([state_of(shelf), state_of(shelf)], [before, before])
        self.assertEqual(shelf.outline("a"), (1, (CUT, ("give", "a", 1))))


class DefineTest(CheckedTest):
    def test_names(self):
        shelf = Shelf()
        for name in ("", "A", "a1", "a.1", "a b", "abcdefghi", "a\n", " a", "a_b", "-"):
            self.refuses(shelf, InvalidName, name, "define", name, 1, [GIVE])
            # The name comes before all that may be wrong with the outline.
            self.refuses(shelf, InvalidName, name, "define", name, 9, [("halve",), use("b"), use(name)])
        for name in ("a", "whole", "abcdefgh", "define", "end"):
            shelf.define(name, 1, [GIVE])
        self.assertEqual(shelf.listing(), ["a", "abcdefgh", "define", "end", "whole"])

    def test_players(self):
        shelf = Shelf()
        for players in (0, -1, 6, 10 ** 29):
            self.refuses(shelf, UnknownPlayer, players, "define", "a", players, [GIVE])
            self.refuses(shelf, UnknownPlayer, players, "define", "a", players, [("halve",), use("b")])
        for players in (1, 5):
            shelf.define("a", players, [("give", "whole", players)])
            self.assertEqual(shelf.scheme("a").players, players)

    def test_forms(self):
        shelf = shelf_with(b=[GIVE])
        for wrong in [("halve", "whole"), (), ("give", "whole"), ("give", "whole", 2),
                      ("cut", "a", 1, (2, 1), "b", "c"), ("drop", "A"), ("give", "a.100", 1), ("join", ("a",), "b"),
                      ("use",), ("use", "b", (1,)), ("use", "b", (1,), "whole", 1), ("use", "b", (), "whole"),
                      ("use", "b", (2,), "whole"), ("use", "b", (1, 1), "whole"), ("use", "b", (0,), "whole"),
                      ("use", "B", (1,), "whole"), ("use", "", (1,), "whole"), ("use", "b.1", (1,), "whole"),
                      ("use", "abcdefghi", (1,), "whole"), ("use", "b", (1,), "Whole"), ("use", "b", (1,), ""),
                      ("use", "b", (1,), "a.0"), ("use", "b", 1, "whole"),
                      ("use", 1, (1,), "whole"), ("use", "b", ("a",), "whole"), ("use", "b", (1,), 1)]:
            for statements, place in [([wrong], 0), ([TIE, wrong], 1), ([use("b"), TIE, wrong, ("oh",)], 2),
                                      ([ask([TIE, wrong], [])], 2), ([ask([TIE], [use("b"), wrong])], 3),
                                      ([("drop", "a.1"), wrong], 1), ([use("nobody"), use("a"), wrong], 2)]:
                self.refuses(shelf, InvalidStatement, place, "define", "a", 1, statements)

    def test_sixty_statements(self):
        shelf = shelf_with(b=[])
        for inside in ([use("b")] * 58, [use("b")] * 57 + [ask([], [use("b")])], [TIE] * 6 + [use("b")] * 53):
            shelf.define("a", 1, [*inside, GIVE])
        for statements in ([use("b")] * 61, [use("b")] * 60 + [("halve",)], [use("nobody")] * 61,
                           [ask([use("b")] * 30, [use("b")] * 30)], [("drop", "a.1")] * 61, [use("a")] * 61):
            self.refuses(shelf, TooLarge, 60, "define", "a", 1, statements)
        self.refuses(shelf, InvalidStatement, 59, "define", "a", 1, [use("b")] * 59 + [("halve",)] * 9)

    def test_exactly_sixty_statements(self):
        shelf = shelf_with(b=[])
        shelf.define("a", 1, [use("b")] * 60)
        shelf.define("a", 1, [ask([use("b")] * 30, [use("b")] * 29)])
        self.assertEqual(shelf.scheme("a").statements(), [ask([], [])])

    def test_suffixes(self):
        shelf = shelf_with(b=[GIVE])
        for wrong in [("give", "a.1", 1), ("drop", "whole.1"), ("cut", "a.1", 1, (1, 2), "b", "c"),
                      ("cut", "whole", 1, (1, 2), "b.1", "c"), ("cut", "whole", 1, (1, 2), "b", "c.2.3"),
                      ("trim", "a", "b.1", 1, "c", "d"), ("trim", "a.2", "b", 1, "c", "d"),
                      ("trim", "a", "b", 1, "c", "d.9"), ("pick", 1, "least", ("a", "b.1"), ("c", "d")),
                      ("pick", 1, "least", ("a", "b"), ("c.1", "d")), ("join", ("a", "b.99"), "c"),
                      ("join", ("a", "b"), "c.1"), ask([], [], "a.1", "a"), ask([], [], "a", "a.1"),
                      ("use", "b", (1,), "a.1"), ("use", "nobody", (1,), "whole.1.2.3.4.5.6"),
                      ("use", "a", (1,), "b.1")]:
            for statements, place in [([wrong], 0), ([TIE, use("nobody"), wrong], 2), ([ask([TIE, wrong], [])], 2),
                                      ([ask([TIE], [use("b"), wrong]), ("drop", "a.1")], 3), ([wrong] * 60, 0)]:
                self.refuses(shelf, InvalidStatement, place, "define", "a", 1, statements)

    def test_unknown_names(self):
        shelf = shelf_with(b=[GIVE])
        for statements, name in [
                ([use("c")], "c"), ([use("d"), use("c")], "c"), ([use("b"), use("z"), use("y"), use("b")], "y"),
                ([ask([use("k")], [use("j")])], "j"), ([use("a"), use("c")], "c"), ([("drop", "x"), use("zz")], "zz")]:
            self.refuses(shelf, UnknownName, name, "define", "a", 1, statements)
        # Also if the number of names would be too large.
        self.refuses(shelf_with(**{name: [] for name in "bcdefghi"}), UnknownName, "x", "define", "a", 1, [use("x")])

    def test_cycles(self):
        shelf = shelf_with(a=[], b=[use("a")], c=[use("b")], d=[ask([], [use("c")])])
        for name, statements in [("a", [use("a")]), ("a", [use("b")]), ("a", [use("c")]), ("a", [use("d")]),
                                 ("b", [use("d")]), ("b", [use("a"), use("b")]), ("c", [ask([use("d")], [])]),
                                 ("d", [("drop", "x"), use("d", (1,), "y")]), ("e", [use("e")])]:
            self.refuses(shelf, Cycle, name, "define", name, 1, statements)
        self.refuses(shelf, UnknownName, "x", "define", "a", 1, [use("a"), use("x")])
        eight = shelf_with(**{name: [] for name in "abcdefgh"})
        self.refuses(eight, Cycle, "i", "define", "i", 1, [use("i")])

    def test_nine_names(self):
        shelf = shelf_with(**{name: [] for name in "abcdefgh"})
        self.assertEqual(len(shelf), 8)
        self.refuses(shelf, TooLarge, 8, "define", "i", 1, [])
        self.refuses(shelf, TooLarge, 8, "define", "i", 1, [("drop", "nothing")])
        shelf.define("h", 1, [GIVE])
        shelf.drop("a")
        shelf.define("i", 1, [GIVE])
        self.assertEqual(shelf.listing(), list("bcdefghi"))

    def test_unfit(self):
        shelf = shelf_with(b=[GIVE])
        for statements in ([("drop", "a")], [GIVE, GIVE], [CUT, CUT], [use("b"), use("b")], [use("b"), GIVE],
                           [CUT, ("cut", "a", 1, (1, 2), "b", "c")], [ask([use("b")], []), GIVE],
                           [use("b", (1,), "a")], [CUT, use("b", (1,), "a"), ("give", "a", 1)]):
            self.refuses(shelf, Unfit, "a", "define", "a", 1, statements)

    def test_wrong_number_of_players(self):
        shelf = Shelf()
        shelf.define("two", 2, HALF)
        for players in [(1,), (2,), (1, 2, 3)]:
            self.refuses(shelf, Unfit, "a", "define", "a", 3, [use("two", players)])
        shelf.define("a", 3, [use("two", (3, 1))])
        self.assertEqual(shelf.scheme("a").statements()[0], ("cut", "whole", 3, (1, 2), "a.1", "b.1"))
        # A user that does not fit any more is named, not the outline that is defined.
        self.refuses(shelf, Unfit, "a", "define", "two", 1, [GIVE])
        self.refuses(shelf, Unfit, "a", "define", "two", 3, HALF)

    def test_first_unfit_in_order(self):
        shelf = shelf_with(m=[GIVE], z=[use("m")], b=[use("z")], a=[use("b")], c=[use("m")])
        self.assertEqual(list(shelf.in_order()), ["m", "c", "z", "b", "a"])
        self.refuses(shelf, Unfit, "c", "define", "m", 2, [GIVE])
        shelf.define("c", 1, [])
        self.refuses(shelf, Unfit, "z", "define", "m", 2, [GIVE])
        shelf.define("m", 1, [])
        shelf.define("a", 1, [use("b"), GIVE])
        self.refuses(shelf, Unfit, "a", "define", "m", 1, [GIVE])
        self.refuses(shelf, Unfit, "m", "define", "m", 1, [GIVE, GIVE])

    def test_replaced(self):
        shelf = shelf_with(a=[CUT], b=[use("a")])
        self.assertEqual(shelf.scheme("b").statements(), [("cut", "whole", 1, (1, 2), "a.1", "b.1")])
        shelf.define("a", 1, [GIVE])
        self.assertEqual([shelf.scheme("b").statements(), len(shelf), shelf.history()], [[GIVE], 2, (3, 0)])

    def test_texts(self):
        shelf = Shelf()
        for text, place in [("", 0), ("players 6", 0), ("players 2;", 0), ("players 2; use half for 3 on a", 1),
                            ("players 2; use half for 1, 1 on a", 1), ("players 2; use Half for 1 on a", 1),
                            ("players 2; use half for  on a", 1), ("players 2; use half for 1, 2", 1),
                            ("players 2; use half for 1,2 on a", 1), ("players 2; use half for 1, 2 on a;", 1),
                            ("players 2; use half for 01 on a", 1), ("players 2; use half on a for 1", 1),
                            ("players 2; ask 1 if a is 1 of a; use half for 1 on a", 3), ("players 2; else", 1)]:
            for name in ("a", "A", ""):
                self.raises(ParseError, place, shelf.define_text, name, text)
        for name, text, error, field in [
                ("A", "players 1; use b for 1 on whole", InvalidName, "A"),
                ("a", "players 1; drop a.1; use b for 1 on whole", InvalidStatement, 0),
                ("a", "players 1; use b for 1 on a.1", InvalidStatement, 0),
                ("a", "; ".join(["players 1", *["drop a"] * 61]), TooLarge, 60),
                ("a", "players 1; use b for 1 on whole; use a for 1 on whole", UnknownName, "b"),
                ("a", "players 1; use a for 1 on b", Cycle, "a"), ("a", "players 1; drop b", Unfit, "a")]:
            self.raises(error, field, shelf.define_text, name, text)
        self.assertEqual(state_of(shelf), state_of(Shelf()))
        shelf.define_text("kinds", ALL_KINDS_TEXT)
        self.assertEqual([shelf.outline("kinds"), shelf.history()], [(3, tuple(ALL_KINDS)), (1, 0)])


class ExpansionTest(CheckedTest):
    def statements(self, shelf, name):
        return shelf.scheme(name).statements()

    def test_every_kind(self):
        shelf = Shelf()
        shelf.define("kinds", 3, ALL_KINDS)
        shelf.define("a", 4, [("cut", "whole", 4, (1, 2), "a", "x"), use("kinds", (3, 1, 4), "x"), ("give", "a", 2)])
        self.assertEqual(shelf.scheme("a").text(), (
            "players 4; cut whole by 4 at 1/2 into a, x; cut x by 3 at 1/3 into a.1, b.1; "
            "trim b.1 to a.1 by 1 into c.1, d.1; pick least of c.1, a.1 by 4 as x.1, y.1; "
            "ask 3 if x.1 is 2/3 of d.1; join d.1, y.1 as e.1; give e.1 to 4; else; drop y.1; "
            "ask 1 if d.1 is 0 of d.1; give d.1 to 3; else; end; end; give x.1 to 1; give a to 2"))
        self.assertTrue(Scheme.read(shelf.scheme("a").text()) == shelf.scheme("a"))

    def test_whole_everywhere(self):
        shelf = shelf_with(
            again=[CUT, ("join", ("b", "a"), "whole"), ask([("drop", "whole")], [GIVE], "whole", "whole")],
            a=[CUT, use("again", (1,), "b")])
        self.assertEqual(self.statements(shelf, "a")[1:], [
            ("cut", "b", 1, (1, 2), "a.1", "b.1"), ("join", ("b.1", "a.1"), "b"),
            ask([("drop", "b")], [("give", "b", 1)], "b", "b")])

    def test_uses_are_numbered_in_order(self):
        statements = [("cut", "whole", 1, (1, 2), "a", "c"), ("cut", "c", 1, (1, 2), "b", "c"),
                      ("ask", 1, "a", (1, 1), "b",
                       (use("half", (1,), "a"), ("ask", 1, "b", (1, 1), "c", (), (use("half", (1,), "b"),))),
                       (use("half", (1,), "b"),)),
                      use("half", (1,), "c")]
        shelf = shelf_with(half=[CUT, ("drop", "b"), ("give", "a", 1)], a=statements)
        ended, last = self.statements(shelf, "a")[2:4]
        self.assertEqual([ended[5][0][4:], ended[5][3][6][0][4:], ended[6][0][4:], last[4:]],
                         [("a.1", "b.1"), ("a.2", "b.2"), ("a.3", "b.3"), ("a.4", "b.4")])

    def test_suffixes_stand_in_the_order_of_the_uses(self):
        shelf = shelf_with(
            a=[CUT, ("drop", "b"), ("give", "a", 1)], b=[CUT, use("a", (1,), "b"), use("a", (1,), "a")],
            c=[("cut", "whole", 1, (1, 3), "p", "q"), use("a", (1,), "q"), use("b", (1,), "p")])
        self.assertEqual([statement[4:] for statement in self.statements(shelf, "c") if statement[0] == "cut"],
                         [("p", "q"), ("a.1", "b.1"), ("a.2", "b.2"), ("a.1.2", "b.1.2"), ("a.2.2", "b.2.2")])

    def test_players_through_several_uses(self):
        shelf = Shelf()
        shelf.define("a", 2, [("cut", "whole", 1, (1, 2), "a", "b"), ("give", "a", 2), ("give", "b", 1)])
        shelf.define("b", 3, [use("a", (3, 2))])
        shelf.define("c", 5, [use("b", (5, 1, 4))])
        self.assertEqual(self.statements(shelf, "c"), [
            ("cut", "whole", 4, (1, 2), "a.1.1", "b.1.1"), ("give", "a.1.1", 1), ("give", "b.1.1", 4)])

    def test_nothing(self):
        shelf = shelf_with(a=[], b=[use("a"), use("a"), use("a", (1,), "nothing"), GIVE])
        # A use of no statements uses no piece, though it counts as a statement of the outline.
        self.assertEqual(self.statements(shelf, "b"), [GIVE])

    def test_six_and_seven_suffixes(self):
        shelf = shelf_with(a=[CUT])
        for name, used in zip("bcdefg", "abcdef"):
            shelf.define(name, 1, [use(used)])
        self.assertEqual(self.statements(shelf, "g"), [("cut", "whole", 1, (1, 2), "a.1.1.1.1.1.1", "b.1.1.1.1.1.1")])
        self.refuses(shelf, Unfit, "h", "define", "h", 1, [use("g")])
        # Without names of its own the first outline leads to no suffixes, eight deep.
        shelf.define("a", 1, [GIVE])
        shelf.define("h", 1, [use("g")])
        self.assertEqual([self.statements(shelf, "h"), list(shelf.in_order())], [[GIVE], list("abcdefgh")])
        self.refuses(shelf, Unfit, "h", "define", "a", 1, [CUT])

    def test_eight_deep_inside_asks(self):
        shelf = shelf_with(a=[ask([GIVE], [("drop", "whole")])])
        for name, used in zip("bcdefgh", "abcdefg"):
            shelf.define(name, 1, [ask([use(used)], [("drop", "whole")])])
        self.assertEqual([len(shelf.scheme("h")), len(self.statements(shelf, "h"))], [9, 1])
        self.assertEqual(shelf.scheme("h").text().count("ask"), 8)

    def test_limits_by_expansion(self):
        cuts = [("cut", "whole", 1, (1, 2), "a", "r")] + [("cut", "r", 1, (1, 2), "a" + letter, "r")
                                                          for letter in "bcdefghi"]
        # 19 statements and 18 new pieces; 21 statements and 22 branches; 3 statements and 8 branches; 5 branches.
        shelf = shelf_with(
            cuts=[*cuts, *[("drop", cut[4]) for cut in cuts], ("drop", "r")], asks=nested_asks(21, "no"),
            wide=[TIE] * 3, five=nested_asks(4, "yes"), loop=[CUT, ("join", ("a", "b"), "whole")])
        sixty = [use("asks"), CUT, use("cuts", (1,), "a"), use("cuts", (1,), "b")]
        for statements, fits in [
                (sixty, True), ([TIE, *sixty], False), ([*sixty[:3], ("drop", "b")], True),
                ([use("wide")] * 2 + [TIE], True), ([use("wide")] * 2 + [TIE] * 2, False),
                ([use("wide"), use("five"), use("five")], True), ([use("wide"), *[use("five")] * 2, TIE], False),
                # The pieces are 40 in the first case, then 41.
                ([use("loop")] * 13, True), ([*[use("loop")] * 13, ("join", ("whole", "b"), "c")], False),
                ([CUT, *[use("loop", (1,), "a")] * 12, ("join", ("a", "b"), "c")], True),
                ([CUT, *[use("loop", (1,), "a")] * 12, ("cut", "a", 1, (1, 2), "c", "d")], False)]:
            if fits:
                shelf.define("x", 1, statements)
                self.assertTrue(shelf.scheme("x") == Scheme(1, shelf.scheme("x").statements()))
                shelf.undo()
            else:
                self.refuses(shelf, Unfit, "x", "define", "x", 1, statements)

    def test_exactly_at_the_limits(self):
        shelf = shelf_with(wide=[TIE] * 3, five=nested_asks(4, "yes"), loop=[CUT, ("join", ("a", "b"), "whole")])
        shelf.define("x", 1, [use("wide"), use("five"), use("five"), *[use("loop")] * 13])
        self.assertEqual([len(shelf.scheme("x")), list(shelf.scheme("x").branches())[0].size], [200, 40])

    def test_huge_expansions(self):
        shelf = shelf_with(a=[TIE] * 7)
        for name, used in zip("bcdefgh", "abcdefg"):
            self.refuses(shelf, Unfit, name, "define", name, 1, [use(used)] * 60)
            shelf.define(name, 1, [use(used)])
        self.refuses(shelf, Unfit, "b", "define", "b", 1, [use("a")] * 60)
        shelf = shelf_with(**{name: [] for name in "abcdefgh"})
        for name, used in zip("bcdefgh", "abcdefg"):
            shelf.define(name, 1, [use(used)] * 60)
        self.refuses(shelf, Unfit, "b", "define", "a", 1, [CUT, ("join", ("a", "b"), "whole")])
        self.refuses(shelf, Unfit, "b", "define", "a", 1, [TIE])

    def test_nested_twenty_deep(self):
        shelf = shelf_with(a=[*nested_asks(20, "yes"), GIVE])
        inside = (use("a"),)
        for _ in range(20):
            inside = (ask((), inside),)
        shelf.define("b", 1, inside)
        self.assertEqual(len(shelf.scheme("b")), 41)
        other = Shelf()
        other.define_text("b", shelf.outline_text("b").replace("use a for 1 on whole", "give whole to 1"))
        self.assertEqual(len(other.scheme("b")), 21)


class OrderTest(CheckedTest):
    def test_order(self):
        shelf = shelf_with(z=[], y=[use("z")], a=[use("y")], m=[], b=[use("z")], c=[])
        self.assertEqual([list(shelf.in_order()), shelf.listing()], [list("cmzbya"), list("abcmyz")])
        shelf.define("c", 1, [use("a")])
        self.assertEqual(list(shelf.in_order()), list("mzbyac"))
        shelf.define("z", 1, [use("m")])
        self.assertEqual(list(shelf.in_order()), list("mzbyac"))
        shelf.drop("b")
        self.assertEqual(list(shelf.in_order()), list("mzyac"))

    def test_least_possible_name_comes_next(self):
        shelf = shelf_with(b=[], c=[use("b")], a=[use("c")], d=[], ab=[use("b")])
        self.assertEqual(list(shelf.in_order()), ["b", "ab", "c", "a", "d"])

    def test_walk_inside_changes(self):
        shelf = shelf_with(a=[], b=[], c=[])
        seen = []
        for name in shelf.in_order():
            seen.append(name)
            if name == "a":
                shelf.drop("c")
        self.assertEqual(seen[:2], ["a", "b"])

    def test_users(self):
        shelf = shelf_with(z=[], b=[ask([use("z")], [])], a=[use("z"), use("b"), use("z")], c=[use("a")])
        self.assertEqual([shelf.users(name) for name in "zbac"], [["a", "b"], ["a"], ["c"], []])


class DropTest(CheckedTest):
    def test_in_use(self):
        shelf = shelf_with(z=[], y=[use("z")], b=[ask([], [use("z")])], a=[use("y")])
        self.refuses(shelf, InUse, "b", "drop", "z")
        self.refuses(shelf, InUse, "a", "drop", "y")
        shelf.drop("b")
        self.refuses(shelf, InUse, "y", "drop", "z")
        for name in "ayz":
            shelf.drop(name=name)
        self.assertEqual([len(shelf), shelf.history()], [0, (8, 0)])

    def test_not_in_use_any_more(self):
        shelf = shelf_with(z=[], y=[use("z")])
        shelf.define("y", 1, [GIVE])
        shelf.drop("z")
        self.assertEqual(shelf.listing(), ["y"])


class BatchTest(CheckedTest):
    def test_one_step(self):
        shelf = shelf_with(a=[])
        shelf.batch(("define", "b", 1, (use("a"),)), ("define", "c", 1, (use("b"),)), ("drop", "c"))
        self.assertEqual([list(shelf.in_order()), shelf.history()], [["a", "b"], (2, 0)])
        shelf.undo()
        self.assertEqual([shelf.listing(), shelf.history()], [["a"], (1, 1)])
        shelf.redo()
        self.assertEqual([shelf.listing(), shelf.history()], [["a", "b"], (2, 0)])

    def test_empty(self):
        shelf = shelf_with(a=[], b=[])
        shelf.undo()
        before = state_of(shelf)
        self.assertIsNone(shelf.batch())
        self.assertEqual([state_of(shelf), shelf.history()], [before, (1, 1)])

    def test_all_or_none(self):
        shelf = shelf_with(a=[], b=[use("a")])
        before = state_of(shelf)
        for commands, error, field in [
                ([("drop", "b"), ("drop", "a"), ("drop", "c")], UnknownName, "c"),
                ([("define", "c", 1, ()), ("drop", "a")], InUse, "b"),
                ([("drop", "b"), ("define", "a", 1, (use("b"),))], UnknownName, "b"),
                ([("define", "c", 1, (use("d"),)), ("define", "d", 1, ())], UnknownName, "d"),
                ([("define", "c", 1, ()), ("define", "c", 1, (use("c"),)), ("drop", "x")], Cycle, "c"),
                ([("drop", "b"), ("define", "C", 9, ()), ("drop", "x")], InvalidName, "C"),
                ([("define", "c", 1, ()), ("define", "d", 0, ())], UnknownPlayer, 0),
                ([("define", "c", 1, ()), ("define", "d", 1, (TIE, ("oh",)))], InvalidStatement, 1),
                ([("define", name, 1, ()) for name in "cdefghij"], TooLarge, 8),
                ([("define", "c", 1, (GIVE, GIVE)), ("drop", "x")], Unfit, "c")]:
            self.raises(error, field, shelf.batch, *commands)
            self.assertEqual(state_of(shelf), before)

    def test_invalid_commands(self):
        shelf = shelf_with(a=[])
        before = state_of(shelf)
        for wrong in [(), ("drop",), ("drop", "a", "b"), ("define", "b", 1), ("define", "b", 1, (), ()), ("define",),
                      ("undo",), ("remove", "a"), ("Drop", "a"), ("", "a"), (1, "a"), (None, "b", 1, ()),
                      ("define_text", "b", "players 1"), ("batch",), (("drop",), "a"), ([], "a"),
                      ["drop", "a"]]:
            for commands, index in [([wrong], 0), ([("drop", "x"), wrong], 1), ([wrong, ("drop", "x"), ()], 0),
                                    ([("drop", "a"), ("define", "A", 0, ("oh",)), wrong, wrong], 2)]:
                self.raises(InvalidCommand, index, shelf.batch, *commands)
                self.assertEqual(state_of(shelf), before)
            self.raises(InvalidCommand, 0, shelf.preview, wrong)

    def test_lists_stay(self):
        statements = [GIVE]
        command = ("define", "a", 1, statements)
        shelf = Shelf()
        shelf.batch(command, ("define", "b", 1, (use("a"),)))
        statements.append(GIVE)
        self.assertEqual(shelf.outline("a"), (1, (GIVE,)))


class PreviewTest(CheckedTest):
    def test_names(self):
        shelf = shelf_with(a=[], z=[])
        before = state_of(shelf)
        for commands, names in [
                ([], ["a", "z"]), ([("drop", "a")], ["z"]), ([("define", "b", 1, (use("z"),))], ["a", "z", "b"]),
                ([("define", "a", 1, (use("z"),)), ("define", "b", 1, ())], ["b", "z", "a"]),
                ([("drop", "a"), ("drop", "z")], [])]:
            self.assertEqual(shelf.preview(*commands), names)
            self.assertIsInstance(shelf.preview(*commands), list)
            self.assertEqual(state_of(shelf), before)

    def test_redo_stays(self):
        shelf = shelf_with(a=[], z=[])
        shelf.undo()
        before = state_of(shelf)
        shelf.preview(("define", "b", 1, ()))
        self.raises(UnknownName, "x", shelf.preview, ("define", "b", 1, ()), ("drop", "x"))
        self.assertEqual([state_of(shelf), shelf.history()], [before, (1, 1)])
        shelf.redo()
        self.assertEqual(shelf.listing(), ["a", "z"])

    def test_errors_one_by_one(self):
        shelf = shelf_with(a=[], b=[use("a")])
        # A command that has not its form is looked at when it is its turn, and has the index 0 then.
        self.raises(UnknownName, "x", shelf.preview, ("drop", "x"), ("drop",))
        self.raises(InvalidCommand, 0, shelf.preview, ("drop", "b"), ("drop", "a"), ("halve", "a"), ("drop", "x"))
        self.raises(InUse, "b", shelf.preview, ("define", "c", 1, ()), ("drop", "a"), ())
        self.raises(UnknownName, "b", shelf.preview, ("drop", "b"), ("drop", "b"))


class HistoryTest(CheckedTest):
    def test_both_ends(self):
        shelf = Shelf()
        for call in (shelf.undo, shelf.redo):
            self.raises(NothingLeft, None, call)
        shelf.define("a", 1, [])
        self.raises(NothingLeft, None, shelf.redo)
        shelf.undo()
        self.raises(NothingLeft, None, shelf.undo)
        shelf.redo()
        self.raises(NothingLeft, None, shelf.redo)
        self.assertEqual([shelf.listing(), shelf.history()], [["a"], (1, 0)])

    def test_steps(self):
        shelf = Shelf()
        states = [state_of(shelf)]
        for call in (lambda: shelf.define("half", 2, HALF), lambda: shelf.define_text("both", BOTH_TEXT),
                     lambda: shelf.define("half", 2, HALF), lambda: shelf.batch(("drop", "both"), ("drop", "half")),
                     lambda: shelf.define("a", 1, [GIVE]), lambda: shelf.drop("a")):
            self.assertIsNone(call())
            states.append(state_of(shelf))
        self.assertEqual([state[-1] for state in states], [(many, 0) for many in range(7)])
        for many in range(5, -1, -1):
            self.assertIsNone(shelf.undo())
            self.assertEqual(state_of(shelf), [*states[many][:-1], (many, 6 - many)])
        for many in range(1, 7):
            self.assertIsNone(shelf.redo())
            self.assertEqual(state_of(shelf), [*states[many][:-1], (many, 6 - many)])

    def test_new_step_ends_redo(self):
        for call in (lambda shelf: shelf.define("a", 1, []), lambda shelf: shelf.define("b", 1, [GIVE]),
                     lambda shelf: shelf.batch(("define", "a", 1, ())), lambda shelf: shelf.drop("c")):
            shelf = shelf_with(c=[], a=[])
            shelf.undo()
            call(shelf)
            self.assertEqual(shelf.history(), (2, 0))
            self.raises(NothingLeft, None, shelf.redo)

    def test_failed_commands_are_no_steps(self):
        shelf = shelf_with(c=[], a=[])
        shelf.undo()
        for call in (lambda: shelf.define("a", 1, [use("x")]), lambda: shelf.drop("a"), lambda: shelf.batch(()),
                     lambda: shelf.define_text("a", ""), lambda: shelf.batch(("define", "b", 1, ()), ("drop", "x"))):
            self.assertRaises((GrainError, MissingError), call)
            self.assertEqual(shelf.history(), (1, 1))
        shelf.redo()
        self.assertEqual(shelf.listing(), ["a", "c"])

    def test_clones(self):
        shelf = shelf_with(a=[], b=[use("a")], c=[])
        shelf.undo()
        other = shelf.clone()
        self.assertEqual([state_of(other), other == shelf, other is shelf], [state_of(shelf), True, False])
        before = state_of(shelf)
        other.redo()
        other.drop("b")
        other.undo()
        self.assertEqual([state_of(shelf), other.history()], [before, (3, 1)])
        state = state_of(other)
        shelf.undo()
        shelf.undo()
        shelf.define("z", 1, [GIVE])
        self.assertEqual([state_of(other), shelf.history()], [state, (1, 0)])


class EqualTest(unittest.TestCase):
    def test_however_they_came_to_be(self):
        one = shelf_with(a=[GIVE], b=[use("a")])
        other = shelf_with(b=[], c=[], a=[])
        self.assertFalse(one == other)
        other.drop("c")
        other.define_text("a", "players 1; give whole to 1")
        self.assertTrue(one != other)
        other.define("b", 1, (use("a"),))
        self.assertTrue(one == other)
        other.undo()
        self.assertFalse(one == other)
        self.assertTrue(Shelf() == Shelf())

    def test_differences(self):
        shelf = shelf_with(a=[GIVE])
        for other in (Shelf(), shelf_with(b=[GIVE]), shelf_with(a=[]), shelf_with(a=[GIVE], b=[])):
            self.assertFalse(shelf == other)
        other = Shelf()
        other.define("a", 2, [GIVE])
        self.assertFalse(shelf == other)
        # The same scheme does not make equal outlines.
        self.assertFalse(shelf_with(a=[GIVE], b=[GIVE]) == shelf_with(a=[GIVE], b=[use("a")]))

    def test_other_values(self):
        class Any:
            def __eq__(self, other):
                return True

        shelf = Shelf()
        for value in (None, 0, "", [], {}, (), Any(), shelf.listing()):
            self.assertFalse(shelf == value)
            self.assertTrue(shelf != value)


class RandomTest(unittest.TestCase):
    """Shelves against a model, with outlines that often use one another."""

    NAMES = list("abcdefghij")
    PARTS = [
        [], [("give", "whole", 1)], [CUT, ("give", "a", 1)], [TIE], [CUT, ("join", ("b", "a"), "whole")],
        [CUT, ("pick", 1, "least", ("a", "b"), ("b", "a")), ("drop", "a")],
    ]

    def outline(self, rng, there):
        players = rng.choice([1, 1, 1, 2])
        statements = list(rng.choice(self.PARTS))
        for _ in range(rng.choice([0, 0, 1, 1, 2])):
            piece = rng.choice(["whole", "whole", "a", "b"])
            chosen = rng.choice([(1,), (2,), (1, 2), (2, 1)]) if players == 2 else (1,)
            one = use(rng.choice([rng.choice(self.NAMES), *there * 2]), chosen, piece)
            statements.insert(rng.randint(0, len(statements)), rng.choice([one, one, ask([one], []), ask([], [one])]))
        return players, statements

    def command(self, rng, there):
        if rng.random() < 0.12:
            return ("drop", rng.choice(self.NAMES))
        return ("define", rng.choice(self.NAMES), *self.outline(rng, there))

    def told(self, call, *args):
        try:
            call(*args)
        except Refused as refused:
            return refused.args
        except (GrainError, MissingError) as error:
            return (error.word, error.limit if error.word == "toolarge" else error.name)
        return ("done",)

    def compare(self, shelf, model):
        self.assertEqual([shelf.listing(), list(shelf.in_order())], [sorted(model.outlines), model.ordered()])
        for name in model.outlines:
            players, statements = model.outlines[name]
            self.assertEqual([shelf.outline(name), shelf.users(name)], [(players, statements), model.users(name)])
            self.assertTrue(shelf.scheme(name) == Scheme(players, model.expanded(name)))

    def test_random(self):
        rng = random.Random(83)
        words = {}
        for _ in range(40):
            shelf, model, past, future = Shelf(), ShelfModel(), [], []
            for _ in range(80):
                before = model.outlines
                if rng.random() < 0.1 and past:
                    future.append(model.outlines)
                    model.outlines = past.pop()
                    shelf.undo()
                elif rng.random() < 0.1 and future:
                    past.append(model.outlines)
                    model.outlines = future.pop()
                    shelf.redo()
                else:
                    word, *rest = self.command(rng, sorted(before))
                    answer = self.told(getattr(model, word), *rest)
                    self.assertEqual(self.told(getattr(shelf, word), *rest), answer, (word, rest))
                    words[answer[0]] = words.get(answer[0], 0) + 1
                    if answer == ("done",):
                        past, future = [*past, before], []
                self.compare(shelf, model)
                self.assertEqual(shelf.history(), (len(past), len(future)))
        for word in ("done", "unknownname", "cycle", "toolarge", "unfit", "inuse"):
            self.assertGreater(words.get(word, 0), 20, words)


if __name__ == "__main__":
    unittest.main()
