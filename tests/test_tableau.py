import copy
import random
import unittest
from fractions import Fraction

from graincourse.ratios import is_fraction
from graincourse.schemes import Scheme, lead_weights, own_weights
from graincourse.tableau import least
from samples import ALL_KINDS, ASK_TEXT, HALF_TEXT, random_cases

GREAT = 10 ** 30 - 1


def value_of(row, numbers):
    return sum((entry * number for entry, number in zip(row, numbers, strict=True)), Fraction(0))


def random_flows(rng, many):
    """Rows of parts and joins, and worths that satisfy them."""
    entries, loose, worths = [], [0], [2 ** 20 * 3 ** 10]
    while len(worths) < many:
        first = len(worths)
        if rng.random() < 0.3 and len(loose) > 1:
            used = rng.sample(loose, 2)
            made = [first]
            worths.append(worths[used[0]] + worths[used[1]])
        else:
            used, made = [rng.choice(loose)], [first, first + 1]
            worth = worths[used[0]]
            part = rng.choice([0, worth // 2, worth // 3, worth])
            worths += [part, worth - part]
        entries.append({**{piece: 1 for piece in used}, **{piece: -1 for piece in made}})
        loose = [piece for piece in loose if piece not in used] + made
    return [tuple(row.get(piece, 0) for piece in range(len(worths))) for row in entries], worths


class CheckedTest(unittest.TestCase):
    def check(self, equations, comparisons, weights):
        """The least value, None if there is none, where the numbers of the result show it."""
        before = copy.deepcopy((equations, comparisons, weights))
        result = least(equations, comparisons, weights)
        self.assertEqual((equations, comparisons, weights), before)
        self.assertEqual(least(equations, comparisons, weights), result)
        self.assertIsInstance(result, tuple)
        value = None
        if result[0] == "met":
            self.assertEqual(len(result), 5)
            self.assertTrue(is_fraction(result[1]))
            value = Fraction(*result[1])
            self.check_point(equations, comparisons, weights, value, self.numbers(result[2], len(weights)))
        else:
            self.assertEqual([result[0], len(result)], ["shut", 3])
        equal, above = self.numbers(result[-2], len(equations)), self.numbers(result[-1], len(comparisons))
        self.check_totals([*equations, *comparisons], equal, above, weights, value)
        return value

    def numbers(self, values, many):
        self.assertIsInstance(values, list)
        self.assertEqual(len(values), many)
        for value in values:
            self.assertIsInstance(value, tuple)
            self.assertTrue(is_fraction(value), value)
        return [Fraction(*value) for value in values]

    def check_point(self, equations, comparisons, weights, value, point):
        self.assertEqual(point[0], 1)
        self.assertGreaterEqual(min(point), 0)
        for row in equations:
            self.assertEqual(value_of(row, point), 0)
        for row in comparisons:
            self.assertGreaterEqual(value_of(row, point), 0)
        self.assertEqual(value_of(weights, point), value)

    def check_totals(self, rows, equal, above, weights, value):
        self.assertGreaterEqual(min(above, default=0), 0)
        totals = [value_of([row[piece] for row in rows], equal + above) for piece in range(len(weights))]
        limits = [-1] + [0] * (len(weights) - 1)
        if value is not None:
            limits = [weights[0] - value, *weights[1:]]
        for total, limit in zip(totals, limits):
            self.assertLessEqual(total, limit)


class SmallTest(CheckedTest):
    def test_example(self):
        self.assertEqual(
            least([(1, -1, -1), (-1, 2, 0)], [], (0, 0, 1))[:3], ("met", (1, 2), [(1, 1), (1, 2), (1, 2)]))
        self.check([(1, -1, -1), (-1, 2, 0)], [], (0, 0, 1))

    def test_by_name(self):
        result = least(weights=[0, 1], comparisons=[], equations=[[1, -1]])
        self.assertEqual(result, ("met", (1, 1), [(1, 1), (1, 1)], [(-1, 1)], []))

    def test_only_the_whole(self):
        for weight in (0, 5, -7, GREAT):
            self.assertEqual(self.check([], [], (weight,)), weight)
            self.assertEqual(self.check([(0,)], [(0,), (4,)], [weight]), weight)
            self.assertIsNone(self.check([(3,)], [], [weight]))
            self.assertIsNone(self.check([(0,), (-3,)], [(1,)], [weight]))
            self.assertIsNone(self.check([], [(-2,)], [weight]))
            self.assertIsNone(self.check([(0,)], [(0,), (1,), (-1,)], [weight]))

    def test_exact_values(self):
        split = (1, -1, -1)
        for equations, comparisons, weights, value in [
                ([split], [], (0, 1, 0), 0), ([split], [], (0, 1, 1), 1), ([split], [], (0, -3, 2), -3),
                ([split], [(0, 1, -1)], (0, 1, 0), Fraction(1, 2)), ([split], [(0, 1, -1)], (0, 0, 1), 0),
                ([split], [(0, 2, -1)], (7, 1, 0), Fraction(22, 3)),
                ([split], [(0, 1, -1), (0, -1, 1)], (0, 5, -2), Fraction(3, 2)),
                ([split], [(0, 3, -2), (0, -2, 3)], (0, 1, 0), Fraction(2, 5)),
                ([split], [(0, 3, -2), (0, -2, 3)], (0, -1, 0), Fraction(-3, 5)),
                ([split, (0, GREAT, 1 - GREAT)], [], (0, 1, 0), Fraction(GREAT - 1, 2 * GREAT - 1)),
                ([split, (0, 0, 1)], [], (0, 2, GREAT), 2), ([split], [(-1, 2, 0)], (-1, 1, 0), Fraction(-1, 2)),
                ([(1, -1, -1, 0, 0), (0, 1, 0, -1, -1), (-1, 3, 0, 0, 0), (0, -1, 0, 2, 0)], [], (0, 0, 0, 0, 1),
                 Fraction(1, 6))]:
            self.assertEqual(self.check(equations, comparisons, weights), value)

    def test_shut(self):
        split = (1, -1, -1)
        for equations, comparisons in [
                ([split, (0, 1, 0), (0, 0, 1)], []), ([split, (1, -2, 0), (1, 0, -3)], []),
                ([split], [(0, 1, -1), (-2, 3, 0), (0, -2, 1)]), ([split], [(0, 2, -1), (0, -1, 0)]),
                ([split], [(0, -1, 0), (0, 0, -1)]), ([split, (2, -1, 0)], []), ([split], [(-2, 0, 1)]),
                ([(1, 0, 0), split], []), ([split, (1, 1, 0)], []), ([split], [(-1, 0, 0)]),
                ([split, (GREAT, -1, 0)], []), ([split, (-1, 1, 1), (-1, 1, 2), (-1, 2, 1)], [])]:
            for weights in ((0, 0, 0), (1, -1, 5), (0, 0, 1)):
                self.assertIsNone(self.check(equations, comparisons, weights))

    def test_rows_that_tell_nothing(self):
        equations = [(1, -1, -1), (1, -1, -1), (0, 0, 0), (-2, 2, 2), (-1, 2, 0), (0, 1, -1)]
        comparisons = [(0, 0, 0), (1, -1, -1), (-1, 1, 1), (1, 0, 0), (0, 1, 0)]
        self.assertEqual(self.check(equations, comparisons, (0, 1, 0)), Fraction(1, 2))

    def test_no_circles(self):
        """Here exchanges of quantities in another order than that of their numbers go round in a circle."""
        for comparisons, weights in [
                ([(0, 2, -3, -2, -1), (0, -1, 3, -2, -3), (0, 2, 0, 3, 2), (0, -3, -1, -1, 2)], (0, 2, 0, 2, 5)),
                ([(0, 0, -3, 2, 3), (0, -3, 3, -1, 3), (0, 0, 3, -3, -1), (0, -3, 2, 1, 0), (0, -3, 1, -3, -1),
                  (0, 3, 3, -1, 1)], (0, 4, 3, 3, 0)),
                ([(0, 1, 0, -2, 0, 3, 2), (0, 3, -3, 0, 1, 1, -1), (0, 2, -1, 2, -2, 0, 2), (0, -3, 1, -3, 3, -2, 0),
                  (0, -1, -3, 2, -1, -3, 3), (0, 1, 3, -3, -2, -1, -2)], (0, 5, 0, -1, 1, -4, 4)),
                ([(0, 2, 1, 3, 0, 0, 2), (0, -1, 0, -3, -3, -1, 2), (0, 1, -3, 0, -3, 0, -2),
                  (0, -2, -2, -1, -1, 0, -1), (0, -3, 1, -2, 3, 1, 2), (0, 3, -2, 1, -3, 3, 0)],
                 (0, -1, 1, -2, 1, 5, -2)),
                ([(0, 3, 2, 3, 3, -2, -3, -2), (0, -1, -2, 3, 2, 1, 1, -1), (0, -2, -2, 0, -3, 1, 0, 1),
                  (0, 1, 0, 0, -3, 0, -3, 1)], (0, 3, 3, 2, 2, -2, 5, -1)),
                ([(0, 0, 1, 2, 3, 0, 0, -1), (0, -3, 0, 1, 0, 3, 3, -3), (0, -3, -1, 1, -2, -1, -1, 2),
                  (0, 0, -2, 3, 1, 1, 1, 0), (0, 2, 3, 3, 2, 3, -2, 1), (0, -1, -3, -2, 2, 1, 1, 2)],
                 (0, 3, -5, 0, -1, 2, 5, -1))]:
            split = (1, *[-1] * (len(weights) - 1))
            self.check([split], comparisons, weights)

    def test_no_worths_though_some_are_not_bounded(self):
        self.assertIsNone(self.check([(1, 0)], [], (0, -1)))
        self.assertIsNone(self.check([(1, 1, 0)], [], (0, 0, -1)))
        self.assertIsNone(self.check([(1, 0, 0), (0, 1, -1)], [(0, 1, 0)], (0, -1, -1)))


class ManyTest(CheckedTest):
    def test_branches(self):
        for scheme in (Scheme.read(HALF_TEXT), Scheme.read(ASK_TEXT), Scheme(3, ALL_KINDS)):
            for branch in scheme.branches():
                self.check_branch(scheme, branch)

    def check_branch(self, scheme, branch):
        for player in range(1, scheme.players + 1):
            equations, comparisons = branch.equations(player), branch.comparisons(player)
            for weights in (own_weights(scheme, player), lead_weights(scheme, player, 1)):
                self.check(equations, comparisons, branch.weighted(weights))
            known = [(branch.size - 1, (1, 3)), (branch.size - 1, (1, 3))]
            self.check(branch.equations(player, known), comparisons, branch.weighted(own_weights(scheme, player)))

    def test_values_of_branches(self):
        values = []
        for text in (HALF_TEXT, ASK_TEXT):
            scheme = Scheme.read(text)
            values += [
                [self.check(branch.equations(player), branch.comparisons(player),
                            branch.weighted(own_weights(scheme, player))) for branch in scheme.branches()]
                for player in (1, 2)]
        half, third = Fraction(1, 2), Fraction(1, 3)
        self.assertEqual(values, [[half, half], [half, half], [0, half, half], [None, 2 * third, third]])

    def test_random_schemes(self):
        for players, statements in random_cases(150, seed=23):
            try:
                scheme = Scheme(players, statements)
            except (ValueError, LookupError):
                continue
            if len(scheme) <= 20:
                for branch in scheme.branches():
                    self.check_branch(scheme, branch)

    def test_random_rows(self):
        rng = random.Random(31)
        met = shut = 0
        for _ in range(400):
            equations, worths = random_flows(rng, rng.randint(1, 11))
            size = len(worths)
            most = rng.choice([1, 3, 99, GREAT])
            for _ in range(rng.randint(0, 2)):
                equations.append(tuple(rng.choice([0, 0, rng.randint(-most, most)]) for _ in range(size)))
            rows = range(rng.randint(0, 5))
            comparisons = [tuple(rng.choice([0, 0, rng.randint(-most, most)]) for _ in range(size)) for _ in rows]
            rng.shuffle(equations)
            value = self.check(equations, comparisons, [rng.randint(-most, most) for _ in range(size)])
            met, shut = met + (value is not None), shut + (value is None)
        self.assertGreater(min(met, shut), 100)

    def test_rows_that_some_worths_satisfy(self):
        rng = random.Random(37)
        for size in (5, 10, 20, 40):
            for _ in range(12):
                equations, worths = random_flows(rng, size)
                comparisons = [self.satisfied(rng, worths) for _ in range(rng.choice([2, 10, 30]))]
                weights = [rng.choice([0, 0, 1, -1, 5]) for _ in worths]
                value = self.check(equations, comparisons, weights)
                self.assertLessEqual(value, Fraction(sum(map(int.__mul__, weights, worths)), worths[0]))

    def satisfied(self, rng, worths):
        row = [0] * len(worths)
        row[rng.randrange(len(row))] += rng.randint(1, 99)
        row[rng.randrange(len(row))] -= rng.randint(0, 99)
        return row if value_of(row, worths) >= 0 else [-entry for entry in row]


if __name__ == "__main__":
    unittest.main()
