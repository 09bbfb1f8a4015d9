import unittest

from graincourse.errors import DuplicatePiece, UnknownPiece
from graincourse.schemes import Scheme
from graincourse.statements import ways_through
from model import Problem, all_followers
from samples import ALL_KINDS, ASK_TEXT, HALF_TEXT, ask, nested_asks, random_cases

TRIM = ("trim", "a", "b", 2, "c", "d")
CUT = ("cut", "whole", 1, (1, 2), "a", "b")


def branches_of(players, statements):
    return list(Scheme(players, statements).branches())


def answers_of(players, statements):
    return [branch.answers for branch in branches_of(players, statements)]


def told(branch, players):
    """All that a branch tells, for all players."""
    rows = [(branch.equations(player), branch.comparisons(player)) for player in range(1, players + 1)]
    return [branch.answers, branch.size, branch.links(), branch.holders(), rows]


class ExamplesTest(unittest.TestCase):
    def test_example(self):
        first = list(Scheme.read(HALF_TEXT).branches())[0]
        self.assertEqual(
            [first.answers, first.holders(), first.equations(1), first.comparisons(2)],
            [(0,), [None, 2, 1], [(1, -1, -1), (-1, 2, 0)], [(0, 1, -1)]])

    def test_other_branch_of_the_example(self):
        second = list(Scheme.read(HALF_TEXT).branches())[1]
        self.assertEqual([second.answers, second.size, second.holders()], [(1,), 3, [None, 1, 2]])
        self.assertEqual([second.equations(2), second.comparisons(2)], [[(1, -1, -1)], [(0, -1, 1)]])
        self.assertEqual(second.comparisons(1), [])

    def test_ask_and_trim(self):
        long, short, no = Scheme.read(ASK_TEXT).branches()
        self.assertEqual([long.answers, short.answers, no.answers], [("yes", "long"), ("yes", "short"), ("no",)])
        self.assertEqual([long.size, short.size, no.size], [5, 5, 3])
        self.assertEqual(long.equations(1), [(1, -1, -1, 0, 0), (0, 1, 0, -1, -1)])
        self.assertEqual(
            long.equations(2), [(1, -1, -1, 0, 0), (0, 1, 0, -1, -1), (-1, 3, 0, 0, 0), (0, 0, -1, 1, 0)])
        self.assertEqual([long.comparisons(1), long.comparisons(2)], [[(0, 1, -1, 0, 0)], []])
        self.assertEqual(short.equations(1), [(1, -1, -1, 0, 0), (0, 1, 0, -1, -1), (0, 0, 0, 0, 1)])
        self.assertEqual(
            short.equations(2), [(1, -1, -1, 0, 0), (0, 1, 0, -1, -1), (-1, 3, 0, 0, 0), (0, 0, 0, 0, 1)])
        self.assertEqual([short.comparisons(1), short.comparisons(2)], [[(0, 1, -1, 0, 0)], [(0, -1, 1, 0, 0)]])
        self.assertEqual([no.equations(2), no.comparisons(1)], [[(1, -1, -1), (-1, 3, 0)], [(0, -1, 1)]])
        self.assertEqual([long.holders(), no.holders()], [[None, None, 2, 1, 2], [None, 2, 1]])


class OrderTest(unittest.TestCase):
    def test_no_answers(self):
        self.assertEqual(answers_of(1, []), [()])
        self.assertEqual(answers_of(1, [CUT, ("join", ("a", "b"), "c"), ("drop", "c")]), [()])

    def test_single(self):
        self.assertEqual(answers_of(2, [CUT, TRIM]), [("long",), ("short",)])
        self.assertEqual(answers_of(2, [CUT, ("pick", 1, "least", ("a", "b"), ("a", "b"))]), [(0,), (1,)])
        self.assertEqual(answers_of(2, [ask([], [])]), [("yes",), ("no",)])

    def test_earlier_answers_count_first(self):
        pick = ("pick", 1, "greatest", ("b", "c", "d"), ("b", "c", "d"))
        rows = [(trim, index, told) for trim in ("long", "short") for index in (0, 1, 2) for told in ("yes", "no")]
        self.assertEqual(answers_of(2, [CUT, TRIM, pick, ask([], [], "b", "c")]), rows)

    def test_four_pieces(self):
        cuts = [CUT, ("cut", "a", 1, (1, 2), "a", "c"), ("cut", "b", 1, (1, 2), "b", "d")]
        names = ("a", "b", "c", "d")
        self.assertEqual(answers_of(1, [*cuts, ("pick", 1, "least", names, names)]), [(0,), (1,), (2,), (3,)])

    def test_sides_of_asks(self):
        inner = ask([], [TRIM], "a", "b")
        pick = ("pick", 1, "least", ("a", "b"), ("b", "a"))
        self.assertEqual(
            answers_of(2, [CUT, ask([pick], [inner], "a", "b"), ask([], [], "b", "b")]),
            [("yes", 0, "yes"), ("yes", 0, "no"), ("yes", 1, "yes"), ("yes", 1, "no"), ("no", "yes", "yes"),
             ("no", "yes", "no"), ("no", "no", "long", "yes"), ("no", "no", "long", "no"),
             ("no", "no", "short", "yes"), ("no", "no", "short", "no")])

    def test_twenty_asks_inside_each_other(self):
        yes = answers_of(1, nested_asks(20, "yes"))
        self.assertEqual(yes, [("yes",) * 20, *[("yes",) * many + ("no",) for many in range(19, -1, -1)]])
        no = answers_of(1, nested_asks(20, "no"))
        self.assertEqual(no, [*[("no",) * many + ("yes",) for many in range(20)], ("no",) * 20])

    def test_as_many_as_ways(self):
        names = ("a", "b")
        scheme = Scheme(2, [CUT, *[("pick", 2, "greatest", names, names)] * 7])
        self.assertEqual([len(scheme), len(list(scheme.branches()))], [128, 128])
        self.assertEqual(list(scheme.branches())[5].answers, (0, 0, 0, 0, 1, 0, 1))

    def test_walks_are_alike(self):
        scheme = Scheme(3, ALL_KINDS)
        first = [told(branch, 3) for branch in scheme.branches()]
        self.assertEqual([told(branch, 3) for branch in scheme.branches()], first)
        self.assertEqual(list(scheme.branches()), list(scheme.branches()))

    def test_walk_inside_a_walk(self):
        scheme = Scheme(3, ALL_KINDS)
        expected = [branch.answers for branch in scheme.branches()]
        outer = []
        for branch in scheme.branches():
            outer.append(branch.answers)
            self.assertEqual([inner.answers for inner in scheme.branches()], expected)
        self.assertEqual(outer, expected)

    def test_walk_that_is_broken_off(self):
        scheme = Scheme(2, [CUT, TRIM])
        walk = scheme.branches()
        self.assertEqual(next(walk).answers, ("long",))
        self.assertEqual([branch.answers for branch in scheme.branches()], [("long",), ("short",)])
        self.assertEqual([branch.answers for branch in walk], [("short",)])

    def test_branches_is_a_generator(self):
        walk = Scheme(1, []).branches()
        self.assertIs(iter(walk), walk)


class PiecesTest(unittest.TestCase):
    def test_only_the_whole(self):
        for statements, holder in [([], 0), ([("drop", "whole")], 0), ([("give", "whole", 5)], 5)]:
            [branch] = branches_of(5, statements)
            self.assertEqual([branch.size, branch.links(), branch.holders()], [1, [None], [holder]])
            self.assertEqual([branch.equations(1), branch.comparisons(1)], [[], []])

    def test_numbers_of_pieces(self):
        [branch] = branches_of(2, [
            CUT, ("cut", "b", 2, (1, 3), "whole", "c"), ("join", ("c", "a"), "b"), ("give", "b", 1),
            ("give", "whole", 2)])
        self.assertEqual(branch.size, 6)
        self.assertEqual(branch.links(), [
            ("part", 0, 1, 2), ("join", (4, 1), 5), ("part", 2, 3, 4), None, ("join", (4, 1), 5), None])
        self.assertEqual(branch.holders(), [None, None, None, 2, None, 1])

    def test_join_of_four(self):
        [branch] = branches_of(1, [
            CUT, ("cut", "a", 1, (0, 1), "c", "d"), ("cut", "b", 1, (1, 1), "e", "f"),
            ("join", ("f", "c", "e", "d"), "whole")])
        join = ("join", (6, 3, 5, 4), 7)
        self.assertEqual(branch.links()[3:], [join, join, join, join, None])
        self.assertEqual(branch.equations(1), [
            (1, -1, -1, 0, 0, 0, 0, 0), (0, 1, 0, -1, -1, 0, 0, 0), (0, 0, 1, 0, 0, -1, -1, 0),
            (0, 0, 0, 1, 1, 1, 1, -1), (-1, 2, 0, 0, 0, 0, 0, 0), (0, 0, 0, 1, 0, 0, 0, 0),
            (0, 0, -1, 0, 0, 1, 0, 0)])

    def test_picks_only_rename(self):
        statements = [
            CUT, TRIM, ("pick", 1, "least", ("d", "b", "c"), ("c", "d", "b")), ("give", "c", 1), ("give", "d", 2)]
        rows = [(branch.answers, branch.size, branch.holders()) for branch in branches_of(2, statements)]
        for answer in ("long", "short"):
            self.assertIn(((answer, 0), 5, [None, None, 2, 0, 1]), rows)
            self.assertIn(((answer, 1), 5, [None, None, 1, 0, 2]), rows)
            self.assertIn(((answer, 2), 5, [None, None, 0, 1, 2]), rows)

    def test_like_stays_and_can_be_given(self):
        branch = branches_of(2, [CUT, TRIM, ("give", "b", 2)])[0]
        self.assertEqual([branch.links()[2], branch.holders()], [None, [None, None, 2, 0, 0]])

    def test_lists_are_new(self):
        for branch in branches_of(3, ALL_KINDS):
            before = told(branch, 3)
            branch.links().clear()
            branch.links()[0] = None
            branch.holders().reverse()
            branch.holders()[0] = 7
            branch.equations(1).clear()
            branch.comparisons(3).append(())
            branch.weighted([1, 2, 3, 4]).clear()
            self.assertEqual(told(branch, 3), before)

    def test_kinds_of_values(self):
        for branch in branches_of(3, ALL_KINDS):
            self.assertIsInstance(branch.answers, tuple)
            for values in (branch.links(), branch.holders(), branch.equations(1), branch.comparisons(3)):
                self.assertIsInstance(values, list)
            for row in [*branch.equations(1), *branch.comparisons(3)]:
                self.assertIsInstance(row, tuple)


class RowsTest(unittest.TestCase):
    def test_all_kinds(self):
        rows = branches_of(3, ALL_KINDS)
        self.assertEqual([branch.answers for branch in rows[:4]], [
            ("long", 0, "yes"), ("long", 0, "no", "yes"), ("long", 0, "no", "no"), ("long", 1, "yes")])
        self.assertEqual([len(rows), rows[0].size, rows[1].size], [12, 6, 5])
        first, second = rows[0], rows[1]
        # whole 0; a 1, b 2; c 3, d 4: x is c, y is a; e 5
        self.assertEqual(first.equations(1), [
            (1, -1, -1, 0, 0, 0), (0, 0, 1, -1, -1, 0), (0, 1, 0, 0, 1, -1), (-1, 3, 0, 0, 0, 0)])
        self.assertEqual(first.equations(2), [
            (1, -1, -1, 0, 0, 0), (0, 0, 1, -1, -1, 0), (0, 1, 0, 0, 1, -1), (0, -1, 0, 1, 0, 0)])
        self.assertEqual(first.equations(3), [(1, -1, -1, 0, 0, 0), (0, 0, 1, -1, -1, 0), (0, 1, 0, 0, 1, -1)])
        self.assertEqual(first.comparisons(1), [(0, 0, 0, 3, -2, 0)])
        self.assertEqual([first.comparisons(2), first.comparisons(3)], [[], [(0, 1, 0, -1, 0, 0)]])
        # The ask of player 2 compares d with itself, times 0.
        self.assertEqual([second.comparisons(1), second.comparisons(2)], [[(0, 0, 0, -3, 2)], [(0, 0, 0, 0, 1)]])
        self.assertEqual([first.holders(), second.holders()], [[None, None, None, 2, None, 3], [None, 0, None, 2, 1]])
        last = rows[-1]
        self.assertEqual(last.answers, ("short", 1, "no", "no"))
        self.assertEqual(last.equations(1), [
            (1, -1, -1, 0, 0), (0, 0, 1, -1, -1), (-1, 3, 0, 0, 0), (0, 0, 0, 0, 1)])
        self.assertEqual(last.comparisons(1), [(0, -3, 0, 0, 2)])
        self.assertEqual(last.comparisons(2), [(0, 1, -1, 0, 0), (0, 0, 0, 0, -1)])
        self.assertEqual(last.comparisons(3), [(0, -1, 0, 1, 0)])

    def test_picks_from_many(self):
        cuts = [CUT, ("cut", "a", 1, (1, 2), "a", "c"), ("cut", "b", 1, (1, 2), "b", "d")]
        names = ("d", "a", "b", "c")
        for which, sign in (("greatest", 1), ("least", -1)):
            rows = branches_of(2, [*cuts, ("pick", 2, which, names, names)])
            # d 6, a 3, b 5, c 4
            for branch, picked, others in zip(rows, (6, 3, 5, 4), ((3, 5, 4), (6, 5, 4), (6, 3, 4), (6, 3, 5))):
                expected = []
                for other in others:
                    row = [0] * 7
                    row[picked], row[other] = sign, -sign
                    expected.append(tuple(row))
                self.assertEqual(branch.comparisons(2), expected)
                self.assertEqual(branch.comparisons(1), [])

    def test_asks(self):
        for share, piece, like, yes in [
                ((2, 3), "a", "b", (0, 3, -2)), ((0, 1), "b", "a", (0, 0, 1)), ((99, 98), "a", "a", (0, -1, 0)),
                ((1, 1), "b", "b", (0, 0, 0)), ((99, 1), "a", "b", (0, 1, -99)), ((1, 99), "a", "b", (0, 99, -1))]:
            one, other = branches_of(2, [CUT, ("ask", 2, piece, share, like, (), ())])
            self.assertEqual([one.comparisons(2), one.comparisons(1)], [[yes], []])
            self.assertEqual(other.comparisons(2), [tuple(-number for number in yes)])

    def test_shares_of_cuts(self):
        for share, own in [((0, 1), (0, 1, 0)), ((1, 1), (-1, 1, 0)), ((97, 99), (-97, 99, 0))]:
            [branch] = branches_of(2, [("cut", "whole", 2, share, "a", "b")])
            self.assertEqual(branch.equations(2), [(1, -1, -1), own])
            self.assertEqual(branch.equations(1), [(1, -1, -1)])

    def test_empty_pieces_ascend_behind_own_rows(self):
        statements = [
            CUT, TRIM, ("trim", "c", "b", 1, "e", "f"), ("trim", "e", "b", 2, "g", "h"),
            ("cut", "g", 2, (1, 4), "k", "l")]
        branch = branches_of(2, statements)[-1]
        self.assertEqual(branch.answers, ("short", "short", "short"))
        flows = [(1, -1, -1) + (0,) * 8, (0, 1, 0, -1, -1) + (0,) * 6, (0, 0, 0, 1, 0, -1, -1) + (0,) * 4,
                 (0, 0, 0, 0, 0, 1, 0, -1, -1, 0, 0), (0, 0, 0, 0, 0, 0, 0, 1, 0, -1, -1)]
        empties = [tuple(int(at == piece) for at in range(11)) for piece in (4, 6, 8)]
        self.assertEqual(branch.equations(1), [*flows, (-1, 2) + (0,) * 9, *empties])
        self.assertEqual(branch.equations(2), [*flows, (0,) * 7 + (-1, 0, 4, 0), *empties])
        self.assertEqual(branch.comparisons(2), [(0, -1, 1) + (0,) * 8, (0, 0, 1, 0, 0, -1) + (0,) * 5])

    def test_known_worths(self):
        branch = branches_of(2, [CUT, TRIM])[1]
        plain = branch.equations(1)
        known = [(3, (1, 3)), (0, (1, 1)), (1, (0, 1)), (3, (-7, 2)), (0, (2, 3)), (4, (10 ** 40, 10 ** 39 + 1))]
        rows = [(-1, 0, 0, 3, 0), (0, 0, 0, 0, 0), (0, 1, 0, 0, 0), (7, 0, 0, 2, 0), (1, 0, 0, 0, 0),
                (-10 ** 40, 0, 0, 0, 10 ** 39 + 1)]
        self.assertEqual(branch.equations(1, known), plain + rows)
        self.assertEqual(branch.equations(player=1, known=tuple(known)), plain + rows)
        self.assertEqual([branch.equations(1, []), branch.equations(1, known=())], [plain, plain])
        self.assertEqual(known[:2], [(3, (1, 3)), (0, (1, 1))])
        self.assertEqual(branch.equations(1), plain)

    def test_weighted(self):
        branch = branches_of(2, [CUT, ("cut", "b", 1, (1, 2), "c", "d"), ("give", "c", 2), ("give", "a", 1)])[0]
        # 1 is given to 1, 3 is given to 2, 4 is left.
        self.assertEqual(branch.weighted([0, 1, 0]), [0, 1, 0, 0, 0])
        self.assertEqual(branch.weighted((0, 0, 1)), [0, 0, 0, 1, 0])
        self.assertEqual(branch.weighted(weights=[10 ** 30, -5, 7]), [0, -5, 0, 7, 10 ** 30])

    def test_players_without_statements(self):
        for branch in branches_of(5, ALL_KINDS):
            for player in (4, 5):
                self.assertEqual(branch.comparisons(player), [])
                self.assertEqual(branch.equations(player), branch.equations(3))


class ModelTest(unittest.TestCase):
    """The branches of many schemes, against what the model makes of the same statements."""

    def test_against_the_model(self):
        schemes = problems = 0
        for players, statements in random_cases(600, seed=7):
            if ways_through(statements) > 200:
                continue
            try:
                followers = all_followers(statements)
            except Problem as problem:
                with self.assertRaises((UnknownPiece, DuplicatePiece)) as caught:
                    Scheme(players, statements)
                self.assertEqual((caught.exception.word, caught.exception.name), problem.args)
                problems += 1
                continue
            branches = branches_of(players, statements)
            self.assertEqual([branch.answers for branch in branches], [tuple(each.answers) for each in followers])
            for branch, follower in zip(branches, followers):
                self.compare(branch, follower, players)
            schemes += 1
        self.assertGreater(schemes, 300)
        self.assertGreater(problems, 10)

    def compare(self, branch, follower, players):
        self.assertEqual([branch.size, branch.links()], [follower.size, follower.all_links()])
        self.assertEqual(branch.holders(), follower.holders())
        for player in range(1, players + 1):
            self.assertEqual(branch.equations(player), follower.equations(player))
            self.assertEqual(branch.comparisons(player), follower.comparisons(player))


if __name__ == "__main__":
    unittest.main()
