import copy
import itertools
import unittest
from fractions import Fraction

from certificates import all_ways, points_of, satisfies
from graincourse.grains import are_grains, is_way, keeps, split_flow, worths_of
from graincourse.ratios import is_fraction
from graincourse.schemes import Scheme
from graincourse.tableau import least
from model import all_followers
from samples import ALL_KINDS, ASK_TEXT, HALF_TEXT, LONE_TEXT, MANY, valid_schemes

HALF = Scheme.read(HALF_TEXT)
ASK = Scheme.read(ASK_TEXT)
# Ways that part and come together again, twice.
LOOPS = Scheme(2, [
    ("cut", "whole", 1, (1, 2), "a", "b"), ("cut", "a", 2, (1, 3), "a", "c"), ("join", ("a", "b"), "b"),
    ("cut", "b", 1, (1, 4), "a", "b"), ("join", ("a", "c"), "a"), ("give", "a", 1), ("give", "b", 2)])
HALVES = [((0, 1), ((1, 2), (1, 3))), ((0, 2), ((1, 2), (2, 3)))]


def branch_of(scheme, index=0):
    return list(scheme.branches())[index]


def pairs_of(scheme):
    return list(zip(scheme.branches(), all_followers(scheme.statements())))


def as_pair(value):
    return Fraction(value).as_integer_ratio()


class SplitFlowTest(unittest.TestCase):
    def check(self, branch, follower, point):
        before = copy.deepcopy(point)
        flow = split_flow(branch, point)
        self.assertEqual(point, before)
        self.assertEqual(split_flow(branch, point), flow)
        self.assertIsInstance(flow, list)
        ways = [way for way, _ in flow]
        self.assertEqual(len(set(ways)), len(ways))
        possible = all_ways(follower)
        sums = [Fraction(0)] * branch.size
        for way, amount in flow:
            self.assertIn(way, possible)
            self.assertTrue(is_fraction(amount) and amount[0] > 0, amount)
            for piece in way:
                sums[piece] += Fraction(*amount)
        self.assertEqual(sums, [Fraction(*worth) for worth in point])
        return flow

    def test_example(self):
        flow = self.check(*pairs_of(HALF)[0], [(1, 1), (1, 3), (2, 3)])
        self.assertEqual(flow, [((0, 1), (1, 3)), ((0, 2), (2, 3))])

    def test_nothing_on_one_side(self):
        for point, flow in [([(1, 1), (1, 1), (0, 1)], [((0, 1), (1, 1))]),
                            ([(1, 1), (0, 1), (1, 1)], [((0, 2), (1, 1))])]:
            self.assertEqual(self.check(*pairs_of(HALF)[1], point), flow)

    def test_only_the_whole(self):
        for statements in ([], [("give", "whole", 1)], [("drop", "whole")]):
            self.assertEqual(self.check(*pairs_of(Scheme(1, statements))[0], [(1, 1)]), [((0,), (1, 1))])

    def test_empty_piece(self):
        flow = self.check(*pairs_of(ASK)[1], [(1, 1), (1, 4), (3, 4), (1, 4), (0, 1)])
        self.assertEqual(sorted(flow), [((0, 1, 3), (1, 4)), ((0, 2), (3, 4))])

    def test_ways_that_part_and_meet(self):
        # 0: whole, 1 a, 2 b, 3 a, 4 c, 5 b, 6 a, 7 b, 8 a
        point = [(1, 1), (1, 2), (1, 2), (1, 5), (3, 10), (7, 10), (1, 10), (3, 5), (2, 5)]
        flow = self.check(*pairs_of(LOOPS)[0], point)
        self.assertLessEqual(len(flow), 4)
        self.check(*pairs_of(LOOPS)[0], [(1, 1), (1, 1), *[(0, 1)] * 2, (1, 1), *[(0, 1)] * 3, (1, 1)])
        self.check(*pairs_of(LOOPS)[0], tuple(point))

    def test_least_worths(self):
        schemes = [Scheme(3, ALL_KINDS), Scheme.read(LONE_TEXT), *valid_schemes(120, 43, 12)]
        many = 0
        for scheme in schemes:
            for branch, follower in pairs_of(scheme):
                for player in range(1, scheme.players + 1):
                    weights = [(3 * piece) % 7 - 3 for piece in range(branch.size)]
                    result = least(branch.equations(player), branch.comparisons(player), weights)
                    if result[0] == "met":
                        many += len(self.check(branch, follower, result[2])) > 2
        self.assertGreater(many, 50)


class IsWayTest(unittest.TestCase):
    def test_all_tuples(self):
        for scheme in (HALF, ASK, LOOPS):
            for branch, follower in pairs_of(scheme):
                ways = all_ways(follower)
                for length in range(5):
                    for way in itertools.product(range(-2, branch.size + 2), repeat=length):
                        self.assertIs(is_way(branch, way), way in ways, way)

    def test_near_ways(self):
        schemes = [LOOPS, Scheme(3, ALL_KINDS), Scheme.read(LONE_TEXT), *valid_schemes(60, 47, 8)]
        for scheme in schemes:
            for branch, follower in pairs_of(scheme):
                ways = all_ways(follower)
                for way in ways[:20]:
                    self.assertTrue(is_way(branch, way))
                    for other in self.near(way, branch.size):
                        self.assertIs(is_way(branch, other), other in ways, (way, other))

    def near(self, way, size):
        """The way cut off, extended, and with one or two pieces changed."""
        others = [way[:at] for at in range(len(way))] + [way[at:] for at in range(1, len(way))]
        others += [(*way, piece) for piece in range(-1, size + 1)] + [(-1, *way), (0, *way), way + way]
        others += [(*way[:at], piece, *way[at + 1:]) for at in range(len(way)) for piece in range(-size, size + 1)]
        others += [(*way[:at], way[at + 1], way[at], *way[at + 2:]) for at in range(len(way) - 1)]
        others += [tuple(piece - size for piece in way), tuple(reversed(way))]
        return others

    def test_named_edges(self):
        first = branch_of(HALF)
        for way in [(), (0,), (1,), (1, 0), (0, 1, 2), (0, 1, 1), (0, 3), (0, -1), (-3, 1), (0, 10 ** 30)]:
            self.assertIs(is_way(first, way), False)
        self.assertIs(is_way(branch=first, way=(0, 1)), True)
        self.assertIs(is_way(branch_of(Scheme(1, [])), (0,)), True)

    def test_empty_pieces(self):
        long, short = branch_of(ASK, 0), branch_of(ASK, 1)
        self.assertEqual([is_way(long, (0, 1, 4)), is_way(short, (0, 1, 4))], [True, False])
        self.assertEqual([is_way(long, (0, 1, 3)), is_way(short, (0, 1, 3))], [True, True])
        scheme = Scheme(2, [("cut", "whole", 1, (1, 2), "a", "b"), ("trim", "a", "b", 2, "c", "d"),
                            ("join", ("d", "b"), "e"), ("give", "e", 1)])
        told = [[is_way(branch, way) for way in ((0, 1, 3), (0, 1, 4, 5), (0, 2, 5))] for branch in scheme.branches()]
        self.assertEqual(told, [[True, True, True], [True, False, True]])


class WorthsTest(unittest.TestCase):
    def test_worths_of(self):
        first = branch_of(HALF)
        grains = list(HALVES)
        self.assertEqual(worths_of(first, grains, 1), [(1, 1), (1, 2), (1, 2)])
        self.assertEqual(worths_of(branch=first, grains=tuple(grains), player=2), [(1, 1), (1, 3), (2, 3)])
        self.assertEqual(grains, HALVES)
        self.assertEqual(worths_of(first, [], 1), [(0, 1)] * 3)

    def test_same_way_twice(self):
        grains = [((0, 1), ((1, 3), (0, 1))), ((0, 1), ((1, 6), (1, 1))), ((0, 2), ((1, 2), (0, 1)))]
        self.assertEqual(worths_of(branch_of(HALF), grains, 1), [(1, 1), (1, 2), (1, 2)])
        self.assertEqual(worths_of(branch_of(HALF), grains, 2), [(1, 1), (1, 1), (0, 1)])

    def test_flows_of_all_players(self):
        scheme = Scheme(5, MANY)
        for index in (0, 77, 199):
            branch, follower = branch_of(scheme, index), all_followers(MANY)[index]
            grains = []
            for player in range(1, 6):
                result = least(branch.equations(player), branch.comparisons(player), [1] * branch.size)
                if result[0] == "met":
                    nothing = [(0, 1)] * 5
                    for way, amount in split_flow(branch, result[2]):
                        grains.append((way, (*nothing[:player - 1], amount, *nothing[player:])))
            for player in range(1, 6):
                sums = [sum((Fraction(*worths[player - 1]) for way, worths in grains if piece in way), Fraction(0))
                        for piece in range(branch.size)]
                self.assertEqual(worths_of(branch, grains, player), [as_pair(worth) for worth in sums])
            self.assertEqual(follower.size, branch.size)


class KeepsTest(unittest.TestCase):
    def test_all_points(self):
        parts = [Fraction(index, 4) for index in range(5)]
        for scheme in (HALF, ASK):
            for branch, follower in pairs_of(scheme):
                for rest in itertools.product(parts, repeat=branch.size - 1):
                    point = [Fraction(1), *rest]
                    for player in (1, 2):
                        pairs = [as_pair(worth) for worth in point]
                        before = list(pairs)
                        self.assertIs(keeps(branch, player, pairs), satisfies(follower, player, point), point)
                        self.assertEqual(pairs, before)

    def test_by_hand(self):
        first = branch_of(HALF)
        for point, one, two in [
                ([(1, 1), (1, 2), (1, 2)], True, True), ([(1, 1), (1, 3), (2, 3)], False, False),
                ([(1, 1), (2, 3), (1, 3)], False, True), ([(1, 1), (1, 2), (1, 3)], False, False),
                ([(1, 1), (501, 1000), (499, 1000)], False, True)]:
            self.assertEqual([keeps(first, 1, point), keeps(branch=first, player=2, point=tuple(point))], [one, two])

    def test_empty_piece(self):
        short = branch_of(ASK, 1)
        self.assertTrue(keeps(short, 1, [(1, 1), (1, 2), (1, 2), (1, 2), (0, 1)]))
        self.assertFalse(keeps(short, 1, [(1, 1), (1, 2), (1, 2), (1, 4), (1, 4)]))


class AreGrainsTest(unittest.TestCase):
    def check(self, branch, follower, players, grains):
        before = copy.deepcopy(grains)
        told = are_grains(branch, players, grains)
        self.assertEqual(grains, before)
        self.assertIs(told, points_of(follower, players, grains) is not None, grains)
        return told

    def half(self, grains, players=2):
        return self.check(*pairs_of(HALF)[0], players, grains)

    def test_ordinary(self):
        self.assertTrue(self.half(HALVES))
        self.assertTrue(self.half(tuple(HALVES)))
        self.assertTrue(self.half(HALVES[::-1]))
        self.assertTrue(are_grains(branch=branch_of(HALF), players=2, grains=HALVES))
        self.assertTrue(self.half([((0, 2), ((1, 1), (1, 1)))]))

    def test_same_way_and_nothing(self):
        third = ((1, 3), (1, 3))
        self.assertTrue(self.half([((0, 1), third), ((0, 1), third), ((0, 1), third)]))
        self.assertTrue(self.half([*HALVES, ((0, 1), ((0, 1), (0, 1)))]))

    def test_more_or_less(self):
        self.assertFalse(self.half([]))
        self.assertFalse(self.half(HALVES[:1]))
        self.assertFalse(self.half([*HALVES, HALVES[0]]))

    def test_ways(self):
        for way in [(), (0,), (1,), (0, 3), (0, -1), (0, 2, 1), (0, 1, 2), (-3, 1), (1, 0)]:
            self.assertFalse(self.half([HALVES[0], (way, HALVES[1][1])]))

    def test_number_of_worths(self):
        for worths in [(), ((1, 2),), ((1, 2), (2, 3), (0, 1)), ((1, 2), (2, 3), (1, 1))]:
            self.assertFalse(self.half([HALVES[0], ((0, 2), worths)]))
        self.assertFalse(self.half(HALVES, players=1))
        self.assertFalse(self.half(HALVES, players=3))

    def test_wrong_worths(self):
        for worth in [(2, 4), (-1, -2), (1, 0), (0, 0), (0, 2), (1, -2), (-1, 2), (0, -1), (3, 2), (1, 3), (499, 1000)]:
            self.assertFalse(self.half([HALVES[0], ((0, 2), (worth, (2, 3)))]), worth)
            self.assertFalse(self.half([HALVES[0], ((0, 2), ((1, 2), worth))]), worth)

    def test_negative_worths_that_add_up(self):
        self.assertFalse(self.half([((0, 1), ((-1, 2), (1, 3))), ((0, 2), ((3, 2), (2, 3)))]))
        self.assertFalse(self.half([((0, 1), ((1, 2), (5, 3))), ((0, 2), ((1, 2), (-2, 3)))]))

    def test_numbers_that_add_up_but_are_no_fractions(self):
        self.assertFalse(self.half([((0, 1), ((2, 4), (1, 3))), ((0, 2), ((1, 2), (2, 3)))]))
        self.assertFalse(self.half([((0, 1), ((-1, -2), (1, 3))), ((0, 2), ((1, 2), (2, 3)))]))

    def test_one_sum_wrong(self):
        for worths in [((1, 2), (1, 3)), ((2, 3), (2, 3)), ((1, 2), (10 ** 12 + 1, 10 ** 12))]:
            self.assertFalse(self.half([HALVES[0], ((0, 2), worths)]))

    def test_only_the_whole(self):
        for statements in ([], [("give", "whole", 3)]):
            scheme = Scheme(3, statements)
            self.assertTrue(self.check(*pairs_of(scheme)[0], 3, [((0,), ((1, 1), (1, 1), (1, 1)))]))

    def test_random(self):
        for scheme in valid_schemes(60, 53, 8):
            for branch, follower in pairs_of(scheme):
                ways = all_ways(follower)[:6]
                grains = [(way, ((1, len(ways)),) * scheme.players) for way in ways]
                self.assertTrue(self.check(branch, follower, scheme.players, grains))
                self.assertFalse(self.check(branch, follower, scheme.players, grains[1:]))
                self.assertFalse(self.check(branch, follower, scheme.players + 1, grains))


if __name__ == "__main__":
    unittest.main()
