import unittest

from graincourse.errors import (
    DuplicatePiece, GrainError, InvalidStatement, MissingError, TooLarge, UnknownPiece, UnknownPlayer)
from graincourse.schemes import Scheme, lead_weights, own_weights
from samples import ALL_KINDS, HALF_TEXT, ask, nested_asks

CUT = ("cut", "whole", 1, (1, 2), "a", "b")
CUT_A = ("cut", "a", 1, (1, 2), "a", "c")
TRIM = ("trim", "a", "b", 2, "a", "c")
PICK = ("pick", 1, "greatest", ("a", "b"), ("a", "b"))
JOIN = ("join", ("a", "c"), "a")
GIVE = ("give", "whole", 1)
DROP = ("drop", "whole")
WRONG = ("give", "whole", 9)
TIE = ask([], [])
NO_FORM = ("halve", "whole")


def cuts(many):
    """As many cuts, each of the first part of the one before; the last first part is a."""
    return [("cut", "whole" if index == 0 else "a", 1, (1, 2), "a", name_of(index)) for index in range(many)]


def name_of(index):
    return "b" + chr(ord("a") + index)


class ErrorsTest(unittest.TestCase):
    def check(self, players, statements, error, value):
        with self.assertRaises((GrainError, MissingError)) as caught:
            Scheme(players, statements)
        self.assertIs(caught.exception.__class__, error, statements)
        field = {InvalidStatement: "place", TooLarge: "limit", UnknownPlayer: "player"}.get(error, "name")
        self.assertEqual(getattr(caught.exception, field), value, statements)


class ObjectTest(unittest.TestCase):
    def test_example(self):
        scheme = Scheme.read(HALF_TEXT)
        self.assertEqual(
            [len(scheme), repr(scheme), Scheme.read(scheme.text()) == scheme],
            [2, "Scheme(2 players, 2 branches)", True])

    def test_class_values(self):
        self.assertEqual([Scheme.PLAYERS, Scheme.STATEMENTS, Scheme.BRANCHES, Scheme.PIECES], [5, 60, 200, 40])
        scheme = Scheme(1, [])
        self.assertEqual([scheme.PLAYERS, scheme.STATEMENTS, scheme.BRANCHES, scheme.PIECES], [5, 60, 200, 40])

    def test_players(self):
        for players in (1, 2, 3, 4, 5):
            self.assertEqual(Scheme(players, [("give", "whole", players)]).players, players)

    def test_len_and_repr(self):
        for statements, many in [([], 1), ([GIVE], 1), ([TIE], 2), ([CUT, TRIM, PICK], 4), (ALL_KINDS, 12)]:
            scheme = Scheme(3, statements)
            self.assertEqual([len(scheme), repr(scheme)], [many, f"Scheme(3 players, {many} branches)"])
        self.assertEqual(repr(Scheme(1, [])), "Scheme(1 players, 1 branches)")

    def test_equal(self):
        self.assertTrue(Scheme(3, ALL_KINDS) == Scheme(players=3, statements=tuple(ALL_KINDS)))
        self.assertFalse(Scheme(3, ALL_KINDS) != Scheme(3, list(ALL_KINDS)))
        self.assertTrue(Scheme(2, []) == Scheme(2, ()))

    def test_not_equal(self):
        self.assertFalse(Scheme(3, ALL_KINDS) == Scheme(4, ALL_KINDS))
        self.assertFalse(Scheme(3, ALL_KINDS) == Scheme(3, ALL_KINDS[:-1]))
        self.assertFalse(Scheme(2, [GIVE]) == Scheme(2, [("give", "whole", 2)]))
        self.assertFalse(Scheme(2, [CUT]) == Scheme(2, [("cut", "whole", 1, (1, 2), "b", "a")]))
        self.assertTrue(Scheme(1, []) != Scheme(2, []))

    def test_not_equal_to_other_values(self):
        class Any:
            def __eq__(self, other):
                return True

        scheme = Scheme(2, [GIVE])
        for value in (None, 2, "whole", [GIVE], (2, [GIVE]), scheme.text(), [], Any()):
            self.assertFalse(scheme == value)
        self.assertNotIn(scheme, [None, 1, ()])

    def test_statements(self):
        scheme = Scheme(3, ALL_KINDS)
        self.assertEqual(scheme.statements(), ALL_KINDS)
        self.assertIsInstance(scheme.statements(), list)
        self.assertEqual(Scheme(3, tuple(ALL_KINDS)).statements(), ALL_KINDS)
        self.assertEqual(Scheme(1, []).statements(), [])

    def test_passed_list_can_be_changed(self):
        passed = list(ALL_KINDS)
        scheme = Scheme(3, passed)
        passed.clear()
        passed.append(GIVE)
        self.assertEqual([scheme.statements(), len(scheme), scheme == Scheme(3, ALL_KINDS)], [ALL_KINDS, 12, True])

    def test_passed_list_does_not_change(self):
        passed = list(ALL_KINDS)
        Scheme(3, passed)
        self.assertEqual(passed, ALL_KINDS)

    def test_returned_list_can_be_changed(self):
        scheme = Scheme(3, ALL_KINDS)
        scheme.statements().clear()
        scheme.statements()[0] = GIVE
        self.assertEqual([scheme.statements(), len(scheme), scheme == Scheme(3, ALL_KINDS)], [ALL_KINDS, 12, True])

    def test_weights(self):
        scheme = Scheme(3, ALL_KINDS)
        self.assertEqual([own_weights(scheme, player) for player in (1, 2, 3)],
                         [(0, 1, 0, 0), (0, 0, 1, 0), (0, 0, 0, 1)])
        self.assertEqual(own_weights(Scheme(1, []), player=1), (0, 1))
        self.assertEqual(own_weights(scheme=Scheme(5, []), player=5), (0, 0, 0, 0, 0, 1))

    def test_weights_of_a_lead(self):
        scheme = Scheme(3, ALL_KINDS)
        self.assertEqual(lead_weights(scheme, 1, 3), (0, 1, 0, -1))
        self.assertEqual(lead_weights(scheme, other=1, one=3), (0, -1, 0, 1))
        self.assertEqual(lead_weights(scheme, 2, 2), (0, 0, 0, 0))

    def test_weights_of_branches(self):
        first, second = Scheme.read(HALF_TEXT).branches()
        scheme = Scheme.read(HALF_TEXT)
        self.assertEqual([first.weighted(own_weights(scheme, 1)), second.weighted(own_weights(scheme, 1))],
                         [[0, 0, 1], [0, 1, 0]])
        self.assertEqual(first.weighted(lead_weights(scheme, 1, 2)), [0, -1, 1])


class PlayersTest(ErrorsTest):
    def test_wrong_numbers(self):
        for players in (0, -1, 6, 7, 10 ** 30, -10 ** 30):
            self.check(players, [], UnknownPlayer, players)

    def test_before_all_other_errors(self):
        for statements in ([NO_FORM], [GIVE] * 61, [TIE] * 8, cuts(20), [GIVE, DROP], [WRONG] * 61):
            self.check(6, statements, UnknownPlayer, 6)
            self.check(0, statements, UnknownPlayer, 0)


class FormsTest(ErrorsTest):
    def wrong(self, statement, players=2):
        self.check(players, [statement], InvalidStatement, 0)
        self.check(players, [CUT, statement, CUT], InvalidStatement, 1)
        self.check(players, [ask([TIE, CUT], [CUT, statement]), NO_FORM], InvalidStatement, 4)

    def right(self, *statements, players=2):
        self.assertEqual(Scheme(players, statements).statements(), list(statements))

    def test_words(self):
        wrong = ["", "Cut", "cuts", " cut", "cut ", "use", "players", "else", "end", "halve", 0, None,
                 ("cut",), ["cut"]]
        for word in wrong:
            for rest in ((), ("whole",), ("whole", 1), ("whole", 1, (1, 2), "a", "b"), (("a", "b"), "c")):
                self.wrong((word, *rest))

    def test_uses(self):
        self.wrong(("use", "half", (1, 2), "whole"))
        self.wrong(("use", "half", (1,), "a"))

    def test_not_tuples(self):
        for statement in ((), "give", "", None, 3, list(GIVE), list(CUT)):
            self.wrong(statement)

    def test_lengths(self):
        for statement in (CUT, TRIM, PICK, JOIN, GIVE, DROP, TIE):
            self.wrong((*statement, "a"))
            self.wrong((*statement, ()))
            for length in range(1, len(statement)):
                self.wrong(statement[:length])

    def test_names(self):
        wrong = ["", "A", "abcdefghi", "a.0", "a.100", "a.01", "a1", "a b", "a.", ".1", "a.1.1.1.1.1.1.1", "a\n",
                 0, None, ("a",), ("a", "b"), (1, 2)]
        for name in wrong:
            for statement in (CUT, TRIM, JOIN, GIVE, DROP, TIE):
                for at in range(1, len(statement)):
                    if isinstance(statement[at], str):
                        self.wrong((*statement[:at], name, *statement[at + 1:]))
            for names in (("a", name), (name, "b"), ("a", "b", name), ("a", "b", "c", name)):
                self.wrong(("join", names, "d"))
                self.wrong(("pick", 1, "least", names, ("a", "b", "c", "d")[:len(names)]))
                self.wrong(("pick", 1, "least", ("a", "b", "c", "d")[:len(names)], names))

    def test_names_with_suffixes(self):
        self.right(
            ("cut", "whole", 1, (1, 2), "abcdefgh.99.99.99.99.99.99", "a.1"),
            ("trim", "a.1", "abcdefgh.99.99.99.99.99.99", 1, "a.10", "a.1.1.1.1.1.1"),
            ("pick", 1, "least", ("a.10", "a.1.1.1.1.1.1"), ("a.2", "a.3")), ("join", ("a.2", "a.3"), "whole.1"),
            ("drop", "whole.1"), ("give", "abcdefgh.99.99.99.99.99.99", 2))

    def test_names_that_are_words_of_texts(self):
        self.right(("cut", "whole", 1, (1, 2), "cut", "by"), ("join", ("by", "cut"), "end"), ("give", "end", 2))

    def test_players(self):
        for player in (0, -1, 3, 6, 10 ** 30, "1", None, (1,), True):
            self.wrong(("cut", "whole", player, (1, 2), "a", "b"))
            self.wrong(("trim", "a", "b", player, "c", "d"))
            self.wrong(("pick", player, "least", ("a", "b"), ("a", "b")))
            self.wrong(("give", "whole", player))
            self.wrong(("ask", player, "whole", (1, 2), "whole", (), ()))
        for players in (1, 5):
            self.right(("give", "whole", players), players=players)
            self.wrong(("give", "whole", players + 1), players=players)

    def test_shares(self):
        wrong = [(-1, 2), (2, 4), (0, 2), (1, 0), (0, 0), (1, -2), (-1, -2), (1, 100), (99, 100), (100, 1), (100, 99),
                 (99, 10 ** 30), (1,), (1, 2, 1), (), [1, 2], "1/2", None, 1, (True, 2), (1, True), ("1", 2)]
        for share in wrong:
            self.wrong(("cut", "whole", 1, share, "a", "b"))
            self.wrong(("ask", 1, "whole", share, "whole", (), ()))
        for share in ((3, 2), (2, 1), (99, 98), (99, 1)):
            self.wrong(("cut", "whole", 1, share, "a", "b"))
            self.right(("ask", 1, "whole", share, "whole", (), ()))
        for share in ((0, 1), (1, 1), (1, 99), (98, 99), (10, 11)):
            self.right(("cut", "whole", 1, share, "a", "b"))
            self.right(("ask", 1, "whole", share, "whole", (), ()))

    def test_used_pieces_are_different(self):
        self.wrong(("trim", "a", "a", 1, "b", "c"))
        self.wrong(("pick", 1, "least", ("a", "a"), ("b", "c")))
        self.wrong(("pick", 1, "least", ("a", "b", "c", "a"), ("a", "b", "c", "d")))
        self.wrong(("join", ("a", "a"), "b"))
        self.wrong(("join", ("a", "b", "b"), "c"))
        self.right(("ask", 1, "whole", (1, 2), "whole", (), ()))

    def test_new_names_are_different(self):
        self.wrong(("cut", "whole", 1, (1, 2), "a", "a"))
        self.wrong(("trim", "a", "b", 1, "c", "c"))
        self.wrong(("pick", 1, "least", ("a", "b"), ("c", "c")))
        self.wrong(("pick", 1, "least", ("a", "b", "c"), ("a", "b", "a")))

    def test_lists_of_pieces(self):
        names = ("a", "b", "c", "d", "e")
        for many in (0, 1, 5):
            self.wrong(("pick", 1, "least", names[:many], names[:many]))
            self.wrong(("join", names[:many], "f"))
        for many in (2, 3, 4):
            for other in (0, 1, 2, 3, 4, 5):
                if other != many:
                    self.wrong(("pick", 1, "least", names[:many], names[:other]))
            self.wrong(("pick", 1, "least", list(names[:many]), names[:many]))
            self.wrong(("pick", 1, "least", names[:many], list(names[:many])))
            self.wrong(("join", list(names[:many]), "f"))
        self.wrong(("join", "ab", "c"))
        self.wrong(("pick", 1, "least", "ab", "ab"))

    def test_which(self):
        for which in ("", "most", "Greatest", "greatest ", "long", 0, None, ("least",)):
            self.wrong(("pick", 1, which, ("a", "b"), ("a", "b")))
        for which in ("greatest", "least"):
            self.right(CUT, ("pick", 1, which, ("b", "a"), ("a", "b")))

    def test_sides_of_asks(self):
        for side in ([], [GIVE], None, "", "give", 0):
            self.wrong(("ask", 1, "whole", (1, 2), "whole", side, ()))
            self.wrong(("ask", 1, "whole", (1, 2), "whole", (), side))

    def test_number_inside_asks(self):
        rows = [
            ([GIVE, ask([WRONG], [])], 2), ([ask([], [WRONG])], 1), ([ask([GIVE, TIE], [GIVE, WRONG])], 4),
            ([ask([ask([GIVE], [TIE, WRONG])], [NO_FORM]), NO_FORM], 4), ([ask([ask([], [])], [WRONG])], 2),
            ([ask([GIVE], [GIVE]), WRONG], 3), ([ask([WRONG], [NO_FORM])], 1),
            ([("ask", 3, "whole", (1, 2), "whole", (WRONG,), ())], 0), ([ask([GIVE, list(DROP)], [])], 2)]
        for statements, place in rows:
            self.check(2, statements, InvalidStatement, place)

    def test_number_twenty_asks_deep(self):
        for side in ("yes", "no"):
            inside = (WRONG,)
            for depth in range(1, 26):
                inside = (ask(inside, []) if side == "yes" else ask([], inside),)
                self.check(2, inside, InvalidStatement, depth)

    def test_first_wrong_statement(self):
        self.check(2, [CUT, WRONG, NO_FORM], InvalidStatement, 1)
        self.check(2, [CUT, NO_FORM, WRONG], InvalidStatement, 1)
        self.check(2, [DROP, GIVE, CUT, WRONG], InvalidStatement, 3)


class LimitsTest(ErrorsTest):
    """Each limit from both sides. Statements that reach one limit keep the other ones."""

    def test_sixty_statements(self):
        gifts = [("give", name_of(index), 1) for index in range(19)]
        asks = [self.over_a(statement) for statement in nested_asks(20, "no")]
        full = [*cuts(19), *gifts, *asks, ("give", "a", 1)]
        self.assertEqual(self.count(full), 59)
        for place in (0, 19, 38, 39):
            tie = TIE if place == 0 else self.over_a(TIE)
            more = [*full[:place], tie, *full[place:]]
            self.assertEqual([self.count(more), len(Scheme(2, more))], [60, 42])
            self.check(2, [*more, ("drop", "a")], TooLarge, 60)
            self.check(2, [*more, NO_FORM], TooLarge, 60)
            self.check(2, [tie if place == 0 else TIE, *more], TooLarge, 60)

    def over_a(self, statement):
        """An ask about the piece a instead of the whole, with all asks inside it."""
        if statement[0] != "ask":
            return statement
        sides = [tuple(self.over_a(inner) for inner in side) for side in statement[5:]]
        return ("ask", 1, "a", (1, 2), "a", *sides)

    def count(self, statements):
        return sum(1 + (self.count(row[5]) + self.count(row[6]) if row[0] == "ask" else 0) for row in statements)

    def test_all_statements_of_asks_count(self):
        self.check(2, [ask([GIVE] * 30, [GIVE] * 30)], TooLarge, 60)
        self.check(2, [ask([GIVE] * 30, [GIVE] * 29)], UnknownPiece, "whole")
        self.check(2, [ask([ask([], [GIVE] * 29)], [GIVE] * 30)], TooLarge, 60)
        self.check(2, [ask([ask([], [GIVE] * 29)], [GIVE] * 29), GIVE], TooLarge, 60)
        self.check(2, [ask([ask([], [GIVE] * 29)], [GIVE] * 29)], UnknownPiece, "whole")

    def test_far_too_many_statements(self):
        self.check(2, [GIVE] * 200, TooLarge, 60)
        self.check(2, [TIE] * 200, TooLarge, 60)
        self.check(2, nested_asks(70, "yes"), TooLarge, 60)
        self.check(2, nested_asks(61, "no"), TooLarge, 60)

    def test_wrong_statements_first(self):
        self.check(2, [*[GIVE] * 59, WRONG, GIVE], InvalidStatement, 59)
        self.check(2, [*[GIVE] * 59, WRONG], InvalidStatement, 59)
        self.check(2, [*[GIVE] * 60, WRONG], TooLarge, 60)
        self.check(2, [*[GIVE] * 60, None], TooLarge, 60)
        self.check(2, [ask([GIVE] * 58, [WRONG, GIVE])], InvalidStatement, 59)
        self.check(2, [ask([GIVE] * 58, [GIVE, WRONG])], TooLarge, 60)
        self.check(2, [ask([GIVE] * 58, [GIVE]), WRONG], TooLarge, 60)
        self.check(2, [*[GIVE] * 59, ("ask", 1, "whole", (1, 2), "whole", (WRONG,), ())], TooLarge, 60)
        self.check(2, [*[TIE] * 8, WRONG], InvalidStatement, 8)
        self.check(2, [*cuts(20), WRONG], InvalidStatement, 20)
        self.check(2, [GIVE, DROP, WRONG], InvalidStatement, 2)

    def test_two_hundred_branches(self):
        start = [CUT, CUT_A, ("cut", "b", 2, (1, 2), "b", "d")]
        tie = ask([], [], "a", "b")
        three = ("pick", 1, "least", ("a", "b", "c"), ("a", "b", "c"))
        four = ("pick", 1, "least", ("a", "b", "c", "d"), ("a", "b", "c", "d"))
        five = ask([four], [], "a", "b")
        for statements, many in [
                ([five, five, tie, tie, tie], 200), ([tie, five, four, five], 200),
                ([ask([five, five, tie, tie], [five, four, five], "a", "b")], 200),
                ([three, ask([tie] * 6, [tie], "a", "b")], 198)]:
            self.assertEqual(len(Scheme(2, [*start, *statements])), many)
            self.assertEqual(len(list(Scheme(2, [*start, *statements]).branches())), many)
        for statements in (
                [three, ask([tie] * 6, [three], "a", "b")],
                [ask([five, five, tie, tie, tie], [], "a", "b")],
                [five, five, tie, tie, tie, tie], [four, four, four, four], [tie] * 8,
                [("trim", "a", "b", 1, "a", "x" + name_of(index)) for index in range(8)]):
            self.check(2, [*start, *statements], TooLarge, 200)

    def test_forty_pieces(self):
        self.assertEqual([branch.size for branch in Scheme(1, cuts(19)).branches()], [39])
        join = ("join", ("a", name_of(18)), "a")
        self.assertEqual([branch.size for branch in Scheme(1, [*cuts(19), join]).branches()], [40])
        self.check(1, [*cuts(19), join, ("join", ("a", name_of(0)), "a")], TooLarge, 40)
        self.check(1, cuts(20), TooLarge, 40)
        trims = [("trim", "a", "ba", 1, "a", name_of(index)) for index in range(13, 19)]
        sizes = [branch.size for branch in Scheme(1, [*cuts(13), *trims, join]).branches()]
        self.assertEqual(sizes, [40] * 64)
        self.check(1, [*cuts(13), *trims, join, ("drop", "a"), ("join", ("ba", "bb"), "a")], TooLarge, 40)
        self.check(1, [*cuts(14), *trims], TooLarge, 40)

    def test_side_with_more_pieces_counts(self):
        join = ("join", ("a", "b"), "a")
        nine, ten = cuts(9), cuts(10)
        start = [CUT, ("join", ("a", "b"), "whole")]
        for sides in ((nine, ten), (ten, nine), (ten, []), ([], ten)):
            sizes = [branch.size for branch in Scheme(1, [*start, ask(*sides)]).branches()]
            self.assertEqual(sizes, [4 + 2 * len(side) for side in sides])
        more = [("cut", name_of(0), 1, (1, 2), "x" + name_of(index), name_of(0)) for index in range(8)]
        for sides, sizes in (((ten, nine), [40, 38]), ((nine, ten), [38, 40])):
            scheme = Scheme(1, [*start, ask(*sides), *more])
            self.assertEqual([branch.size for branch in scheme.branches()], sizes)
            self.check(1, [*start, ask(*sides), *more, join], TooLarge, 40)
        self.check(1, [*start, ask([*ten, join], nine), *more], TooLarge, 40)
        self.check(1, [*start, ask(nine, [ask([*ten, join], [])]), *more], TooLarge, 40)
        # The pieces of one side are not added to those of the other one.
        self.assertEqual(len(Scheme(1, [ask(cuts(19), cuts(19))])), 2)

    def test_several_limits(self):
        self.check(1, [*cuts(20), *[TIE] * 8], TooLarge, 200)
        self.check(1, [*cuts(20), *[TIE] * 41], TooLarge, 60)
        self.check(1, [*cuts(20), *[GIVE] * 41], TooLarge, 60)
        self.check(1, [TIE] * 61, TooLarge, 60)
        self.check(1, [*[TIE] * 8, GIVE, DROP], TooLarge, 200)
        self.check(1, [*cuts(20), DROP], TooLarge, 40)
        self.check(1, [DROP, *cuts(20)], TooLarge, 40)
        self.check(1, [DROP, *cuts(20), *[TIE] * 8], TooLarge, 200)

    def test_limits_count_where_names_are_wrong(self):
        self.check(1, [DROP, *[DROP] * 59], UnknownPiece, "whole")
        self.check(1, [DROP, *[TIE] * 7], UnknownPiece, "whole")
        self.check(1, [DROP, *cuts(19)], UnknownPiece, "whole")


class NamesTest(ErrorsTest):
    def test_example(self):
        self.check(1, [("give", "whole", 1), ("drop", "whole")], UnknownPiece, "whole")

    def test_unknown_at_the_beginning(self):
        for statement, name in [
                (CUT_A, "a"), (("trim", "b", "a", 1, "c", "d"), "b"), (PICK, "a"), (("join", ("c", "d"), "e"), "c"),
                (("give", "x.1", 1), "x.1"), (("drop", "b"), "b"), (ask([], [], "a", "b"), "a")]:
            self.check(2, [statement], UnknownPiece, name)

    def test_used_names_in_order(self):
        for statement, name in [
                (("trim", "a", "c", 1, "d", "e"), "c"), (("trim", "c", "d", 1, "a", "b"), "c"),
                (("pick", 1, "least", ("a", "b", "d", "c"), ("a", "b", "c", "d")), "d"),
                (("join", ("b", "d", "c"), "a"), "d"), (ask([], [], "a", "d"), "d"), (ask([], [], "e", "d"), "e")]:
            self.check(2, [CUT, statement], UnknownPiece, name)

    def test_used_names_before_new_ones(self):
        self.check(2, [CUT, ("cut", "c", 1, (1, 2), "a", "b")], UnknownPiece, "c")
        self.check(2, [CUT, ("trim", "a", "c", 1, "b", "a")], UnknownPiece, "c")
        self.check(2, [CUT, CUT_A, ("join", ("a", "d"), "c")], UnknownPiece, "d")

    def test_names_that_are_no_longer_present(self):
        start = [CUT, CUT_A]
        for statement in (("cut", "a", 1, (1, 2), "d", "e"), ("trim", "a", "b", 1, "d", "e"), ("give", "a", 1),
                          ("drop", "a"), ("pick", 1, "least", ("a", "b"), ("d", "e")), ("join", ("a", "b"), "d")):
            for use in (("drop", "a"), ("give", "a", 2), ("cut", "a", 1, (1, 2), "f", "g"),
                        ask([], [], "c", "a"), ("trim", "c", "a", 1, "f", "g"), ("join", ("c", "a"), "f")):
                self.check(2, [*start, statement, use], UnknownPiece, "a")
        self.check(2, [*start, ("drop", "whole")], UnknownPiece, "whole")

    def test_like_and_asked_pieces_stay(self):
        self.assertEqual(len(Scheme(2, [CUT, ("trim", "a", "b", 1, "c", "d"), ("give", "b", 1)])), 2)
        self.check(2, [CUT, ("trim", "a", "b", 1, "b", "d")], DuplicatePiece, "b")
        self.check(2, [CUT, ("trim", "a", "b", 1, "d", "b")], DuplicatePiece, "b")
        self.assertEqual(len(Scheme(2, [CUT, ask([], [], "a", "b"), ("give", "a", 1), ("give", "b", 1)])), 2)

    def test_new_names_that_are_present(self):
        start = [CUT, CUT_A]
        for statement, name in [
                (("cut", "a", 1, (1, 2), "b", "c"), "b"), (("cut", "a", 1, (1, 2), "d", "c"), "c"),
                (("trim", "a", "b", 1, "d", "c"), "c"), (("join", ("a", "b"), "c"), "c"),
                (("pick", 1, "least", ("a", "b"), ("a", "c")), "c"),
                (("pick", 1, "least", ("a", "c"), ("b", "a")), "b")]:
            self.check(2, [*start, statement], DuplicatePiece, name)

    def test_names_that_are_free_again(self):
        for statements in (
                [("cut", "whole", 1, (1, 2), "whole", "a"), ("join", ("a", "whole"), "a"), ("give", "a", 1)],
                [CUT, CUT_A, ("pick", 1, "least", ("a", "b", "c"), ("c", "a", "b")), ("join", ("c", "a"), "c")],
                [CUT, ("trim", "a", "b", 1, "c", "a"), ("drop", "a"), ("give", "b", 1)],
                [CUT, ("give", "a", 2), ("cut", "b", 1, (1, 2), "a", "b"), ("join", ("b", "a"), "c")],
                [CUT, ("drop", "a"), ("cut", "b", 1, (1, 2), "whole", "a"), ("join", ("whole", "a"), "b")]):
            self.assertEqual(Scheme(2, statements).statements(), statements)

    def test_first_branch_with_a_problem(self):
        drop_a, drop_b = ("drop", "a"), ("drop", "b")
        for yes, no, rest, error, name in [
                ([drop_a], [drop_b], [("give", "a", 1)], UnknownPiece, "a"),
                ([drop_b], [drop_a], [("give", "a", 1), ("give", "b", 1)], UnknownPiece, "b"),
                ([], [drop_a], [("give", "a", 1)], UnknownPiece, "a"),
                ([], [("drop", "x")], [("drop", "y")], UnknownPiece, "y"),
                ([("drop", "x")], [("drop", "y")], [], UnknownPiece, "x"),
                ([], [("drop", "y")], [], UnknownPiece, "y"),
                ([("cut", "a", 1, (1, 2), "c", "d")], [], [("cut", "b", 1, (1, 2), "b", "c")], DuplicatePiece, "c"),
                ([], [("cut", "a", 1, (1, 2), "c", "d")], [("cut", "b", 1, (1, 2), "b", "d")], DuplicatePiece, "d"),
                ([ask([], [("drop", "x")], "a", "b")], [("drop", "y")], [], UnknownPiece, "x"),
                ([ask([], [("drop", "x")], "a", "b")], [], [("cut", "a", 1, (1, 2), "a", "b")], DuplicatePiece, "b")]:
            self.check(2, [CUT, ask(yes, no, "a", "b"), *rest], error, name)

    def test_first_problem_on_a_branch(self):
        self.check(2, [CUT, ("cut", "a", 1, (1, 2), "b", "c"), ("drop", "x")], DuplicatePiece, "b")
        self.check(2, [CUT, ("drop", "x"), ("cut", "a", 1, (1, 2), "b", "c")], UnknownPiece, "x")


if __name__ == "__main__":
    unittest.main()
