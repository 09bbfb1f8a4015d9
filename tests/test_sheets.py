import unittest
from fractions import Fraction

from certificates import bound_holds, shut_holds, whole_totals
from graincourse.ratios import reduced
from graincourse.schemes import Scheme, lead_weights, own_weights
from graincourse.sheets import Bound, Sheet, Shut
from graincourse.tableau import least
from model import all_followers
from samples import ALL_KINDS, ASK_TEXT, HALF_TEXT, valid_schemes

HALF = Scheme.read(HALF_TEXT)
ASK = Scheme.read(ASK_TEXT)
# The answers of player 1 contradict each other on the branch for yes and no.
CONTRARY = Scheme(2, [
    ("cut", "whole", 2, (1, 3), "a", "b"),
    ("ask", 1, "a", (1, 2), "b", (), ()),
    ("ask", 1, "a", (1, 3), "b", (("give", "a", 1), ("give", "b", 2)), (("give", "a", 2), ("give", "b", 1))),
])
# All is worth nothing to player 1 but the second part, to which the first one cannot be trimmed.
TRIMMED = Scheme(1, [
    ("cut", "whole", 1, (0, 1), "a", "b"), ("trim", "a", "b", 1, "c", "d"), ("give", "b", 1)])


def branch_of(scheme, index=0):
    return list(scheme.branches())[index]


def follower_of(scheme, index=0):
    return all_followers(scheme.statements())[index]


def sheet_of(branch, player, weights, known=()):
    """The sheet that the tableau makes."""
    result = least(branch.equations(player, known), branch.comparisons(player), branch.weighted(weights))
    if result[0] == "met":
        return Bound(result[3], result[4], result[1])
    return Shut(result[1], result[2], player)


def moved(numbers, index, by):
    """The numbers with one of them changed."""
    changed = list(numbers)
    changed[index] = reduced(*Fraction.as_integer_ratio(Fraction(*changed[index]) + by))
    return changed


class ObjectTest(unittest.TestCase):
    def test_example(self):
        first = branch_of(HALF)
        sheet = Bound([(-1, 1), (-1, 2)], [], (1, 2))
        self.assertEqual(
            [sheet.holds(first, 1, (0, 1, 0)), sheet.numbers(), sheet.totals(first, 1)],
            [True, [(-1, 1), (-1, 2), (1, 2)], [(-1, 2), (0, 1), (1, 1)]])

    def test_attributes(self):
        sheet = Sheet([(1, 2), (-3, 1)], [(0, 1)])
        self.assertEqual([sheet.equal, sheet.above], [[(1, 2), (-3, 1)], [(0, 1)]])
        bound = Bound(value=(2, 3), above=[(5, 1)], equal=())
        self.assertEqual([bound.equal, bound.above, bound.value], [[], [(5, 1)], (2, 3)])
        shut = Shut(((1, 1),), (), 4)
        self.assertEqual([shut.equal, shut.above, shut.player], [[(1, 1)], [], 4])
        for made in (sheet, bound, shut):
            self.assertIsInstance(made.equal, list)
            self.assertIsInstance(made.above, list)

    def test_classes(self):
        self.assertEqual([Bound.__bases__, Shut.__bases__], [(Sheet,), (Sheet,)])
        self.assertNotIsInstance(Sheet([], []), (Bound, Shut))
        self.assertNotIsInstance(Bound([], [], (0, 1)), Shut)

    def test_numbers(self):
        self.assertEqual(Sheet([(1, 2), (3, 1)], [(0, 1)]).numbers(), [(1, 2), (3, 1), (0, 1)])
        self.assertEqual(Bound([(1, 2)], [(0, 1)], (-7, 2)).numbers(), [(1, 2), (0, 1), (-7, 2)])
        self.assertEqual(Shut([(1, 2)], [(0, 1)], 5).numbers(), [(1, 2), (0, 1), 5])
        self.assertEqual([Sheet([], []).numbers(), Bound([], [], (0, 1)).numbers()], [[], [(0, 1)]])

    def test_lists_are_copied(self):
        equal, above = [(1, 2)], [(0, 1)]
        for sheet in (Sheet(equal, above), Bound(equal, above, (1, 1)), Shut(equal, above, 1)):
            before = sheet.numbers()
            equal.append((1, 1))
            above.clear()
            sheet.numbers().clear()
            self.assertEqual([sheet.equal, sheet.above, sheet.numbers()], [[(1, 2)], [(0, 1)], before])
            equal[:], above[:] = [(1, 2)], [(0, 1)]

    def test_totals_are_new(self):
        sheet = sheet_of(branch_of(HALF), 1, (0, 1, 0))
        before = sheet.totals(branch_of(HALF), 1)
        sheet.totals(branch_of(HALF), 1).clear()
        self.assertEqual(sheet.totals(branch_of(HALF), 1), before)
        self.assertIsInstance(before, list)


class FitsTest(unittest.TestCase):
    def test_counts(self):
        first = branch_of(HALF)
        # Player 1 has two equations there, player 2 one equation and one comparison.
        for equal, above, one, two in [
                (2, 0, True, False), (1, 1, False, True), (1, 0, False, False), (3, 0, False, False),
                (2, 1, False, False), (0, 2, False, False), (0, 0, False, False), (1, 2, False, False)]:
            for sheet in (Sheet([(1, 1)] * equal, [(1, 1)] * above), Bound([(1, 1)] * equal, [(1, 1)] * above, (0, 1)),
                          Shut([(1, 1)] * equal, [(1, 1)] * above, 1)):
                self.assertEqual([sheet.fits(first, 1), sheet.fits(first, 2)], [one, two], (equal, above))

    def test_signs(self):
        first = branch_of(HALF)
        for number, fits in [((0, 1), True), ((7, 2), True), ((-1, 1), False), ((-1, 10 ** 40), False)]:
            self.assertIs(Sheet([(-1, 1)], [number]).fits(first, 2), fits)
        self.assertIs(Sheet([(-1, 1), (-5, 2)], []).fits(first, 1), True)

    def test_known(self):
        first = branch_of(HALF)
        sheet = Sheet([(1, 1)] * 3, [])
        known = [(1, (1, 2))]
        self.assertEqual([sheet.fits(first, 1, known), sheet.fits(first, 1), sheet.fits(first, 1, known * 2)],
                         [True, False, False])
        self.assertTrue(sheet.fits(branch=first, player=1, known=tuple(known)))


class TotalsTest(unittest.TestCase):
    def test_by_hand(self):
        first = branch_of(HALF)
        self.assertEqual(Sheet([(-1, 2)], [(1, 3)]).totals(first, 2), [(-1, 2), (5, 6), (1, 6)])
        self.assertEqual(Sheet([(0, 1), (0, 1)], []).totals(branch=first, player=1), [(0, 1)] * 3)
        self.assertEqual(
            Sheet([(0, 1), (0, 1), (2, 1)], []).totals(first, 1, known=[(2, (3, 4))]), [(-6, 1), (0, 1), (8, 1)])

    def test_random(self):
        for scheme in (HALF, ASK, CONTRARY, Scheme(3, ALL_KINDS)):
            for index, follower in enumerate(all_followers(scheme.statements())):
                branch = branch_of(scheme, index)
                for player in range(1, scheme.players + 1):
                    for known in ((), [(branch.size - 1, (1, 3)), (0, (1, 1))]):
                        self.check(branch, follower, player, known)

    def check(self, branch, follower, player, known):
        equal = [reduced(7 * index - 3, index + 2) for index in range(len(branch.equations(player, known)))]
        above = [reduced(index, 5) for index in range(len(branch.comparisons(player)))]
        expected = [total.as_integer_ratio() for total in self.expected(follower, player, equal, above, known)]
        self.assertEqual(Sheet(equal, above).totals(branch, player, known), expected)

    def expected(self, follower, player, equal, above, known):
        return whole_totals(follower, player, equal + above, known)


class BoundTest(unittest.TestCase):
    def check(self, sheet, scheme, index, player, weights, known=()):
        """Whether the sheet holds, which is told alike by the program and by the test's own sums."""
        told = sheet.holds(branch_of(scheme, index), player, weights, known=known)
        self.assertIs(told, bound_holds(follower_of(scheme, index), player, weights, sheet, known))
        self.assertIs(sheet.holds(branch_of(scheme, index), player, list(weights), known=tuple(known)), told)
        return told

    def test_value(self):
        for value, holds in [((1, 2), True), ((1, 3), True), ((-5, 1), True), ((51, 100), False), ((1, 1), False)]:
            self.assertIs(self.check(Bound([(-1, 1), (-1, 2)], [], value), HALF, 0, 1, (0, 1, 0)), holds)

    def test_changed(self):
        tiny = Fraction(1, 10 ** 6)
        for scheme, player in [(HALF, 1), (HALF, 2), (ASK, 2)]:
            for index in range(len(scheme)):
                weights = own_weights(scheme, player)
                sheet = sheet_of(branch_of(scheme, index), player, weights)
                if isinstance(sheet, Shut):
                    continue
                self.assertTrue(self.check(sheet, scheme, index, player, weights))
                changed = self.changed(sheet, tiny) + self.changed(sheet, -tiny)
                told = [self.check(other, scheme, index, player, weights) for other in changed]
                self.assertIn(False, told)
                self.assertFalse(self.check(
                    Bound(sheet.equal, sheet.above, moved([sheet.value], 0, tiny)[0]), scheme, index, player, weights))

    def changed(self, sheet, by):
        equal = [Bound(moved(sheet.equal, at, by), sheet.above, sheet.value) for at in range(len(sheet.equal))]
        return equal + [Bound(sheet.equal, moved(sheet.above, at, by), sheet.value) for at in range(len(sheet.above))]

    def test_too_many_and_too_few(self):
        sheet = sheet_of(branch_of(HALF), 2, (0, 0, 1))
        self.assertTrue(self.check(sheet, HALF, 0, 2, (0, 0, 1)))
        for equal, above in [([*sheet.equal, (0, 1)], sheet.above), (sheet.equal, [*sheet.above, (0, 1)]),
                             (sheet.equal[1:], sheet.above), (sheet.equal, sheet.above[1:]), ([], []),
                             ([*sheet.equal, *sheet.above], [])]:
            self.assertFalse(self.check(Bound(equal, above, sheet.value), HALF, 0, 2, (0, 0, 1)))

    def test_negative_number(self):
        # The total would be small enough, but the number of a comparison must not be negative.
        self.assertTrue(self.check(Bound([(-1, 1)], [(1, 1)], (1, 1)), HALF, 0, 2, (0, 2, 2)))
        self.assertFalse(self.check(Bound([(-1, 1)], [(-1, 1)], (1, 1)), HALF, 0, 2, (0, 2, 2)))

    def test_weights(self):
        for weights, value in [((0, 0, 0), (0, 1)), ((7, 7, 7), (7, 1)), ((0, -5, 2), (-3, 2)),
                               ((0, 10 ** 12 - 1, 1 - 10 ** 12), (0, 1))]:
            sheet = sheet_of(branch_of(HALF), 1, weights)
            self.assertEqual(sheet.value, value)
            self.assertTrue(self.check(sheet, HALF, 0, 1, weights))

    def test_pieces_without_a_holder(self):
        scheme = Scheme(1, [("cut", "whole", 1, (1, 2), "a", "b"), ("give", "a", 1)])
        for weights, value in [((0, 1), (1, 2)), ((1, 1), (1, 1)), ((-1, 1), (0, 1))]:
            sheet = sheet_of(branch_of(scheme), 1, weights)
            self.assertEqual(sheet.value, value)
            self.assertTrue(self.check(sheet, scheme, 0, 1, weights))
            self.assertFalse(self.check(sheet, scheme, 0, 1, (weights[0] - 1, weights[1])))

    def test_the_whole(self):
        scheme = Scheme(1, [("give", "whole", 1)])
        self.assertTrue(self.check(Bound([], [], (3, 1)), scheme, 0, 1, (0, 3)))
        self.assertFalse(self.check(Bound([], [], (4, 1)), scheme, 0, 1, (0, 3)))
        self.assertTrue(self.check(Bound([], [], (0, 1)), Scheme(1, []), 0, 1, (0, 3)))

    def test_other_player(self):
        sheet = sheet_of(branch_of(HALF), 1, (0, 1, 0))
        self.assertFalse(self.check(sheet, HALF, 0, 2, (0, 1, 0)))

    def test_known(self):
        known = [(1, (1, 3)), (2, (2, 3))]
        sheet = sheet_of(branch_of(HALF, 1), 2, (0, 0, 1), known)
        self.assertEqual(sheet.value, (2, 3))
        self.assertTrue(self.check(sheet, HALF, 1, 2, (0, 0, 1), known))
        self.assertFalse(self.check(sheet, HALF, 1, 2, (0, 0, 1)))
        self.assertFalse(self.check(sheet, HALF, 1, 2, (0, 0, 1), [(1, (1, 2)), (2, (1, 2))]))


class ShutTest(unittest.TestCase):
    def check(self, sheet, scheme, index, known=()):
        told = sheet.holds(branch_of(scheme, index), known=known)
        self.assertIs(told, shut_holds(follower_of(scheme, index), sheet, known))
        return told

    def test_contrary_answers(self):
        # A piece that is at least half of the other one is not at most a third of it, unless both are 0.
        sheet = sheet_of(branch_of(CONTRARY, 1), 1, (0, 0, 0))
        self.assertIsInstance(sheet, Shut)
        self.assertTrue(self.check(sheet, CONTRARY, 1))
        for index in (0, 2, 3):
            self.assertFalse(self.check(sheet, CONTRARY, index))

    def test_trim(self):
        shut, taken = [sheet_of(branch, 1, (0, 0)) for branch in TRIMMED.branches()]
        self.assertEqual([shut.__class__, taken.__class__], [Shut, Bound])
        self.assertTrue(self.check(shut, TRIMMED, 0))
        self.assertFalse(self.check(Shut(taken.equal, taken.above, 1), TRIMMED, 1))

    def test_changed(self):
        for scheme, index, player in [(CONTRARY, 1, 1), (TRIMMED, 0, 1), (ASK, 0, 2)]:
            sheet = sheet_of(branch_of(scheme, index), player, own_weights(scheme, player))
            self.assertIsInstance(sheet, Shut)
            self.assertTrue(self.check(sheet, scheme, index))
            told = []
            for by in (Fraction(1, 10 ** 6), Fraction(-1, 10 ** 6)):
                for at in range(len(sheet.equal)):
                    told.append(self.check(Shut(moved(sheet.equal, at, by), sheet.above, player), scheme, index))
                for at in range(len(sheet.above)):
                    told.append(self.check(Shut(sheet.equal, moved(sheet.above, at, by), player), scheme, index))
            self.assertIn(False, told)

    def test_scaled(self):
        sheet = sheet_of(branch_of(CONTRARY, 1), 1, (0, 0, 0))
        for above, below, holds in [(2, 1, True), (10 ** 20, 1, True), (1, 2, False), (0, 1, False), (99, 100, False)]:
            equal = [reduced(above * number[0], below * number[1]) for number in sheet.equal]
            numbers = [reduced(above * number[0], below * number[1]) for number in sheet.above]
            self.assertIs(self.check(Shut(equal, numbers, 1), CONTRARY, 1), holds)

    def test_other_player(self):
        for scheme, index, player, other in [(CONTRARY, 1, 1, 2), (ASK, 0, 2, 1)]:
            sheet = sheet_of(branch_of(scheme, index), player, own_weights(scheme, player))
            self.assertFalse(self.check(Shut(sheet.equal, sheet.above, other), scheme, index))

    def test_zeros(self):
        for index in range(4):
            equal = [(0, 1)] * len(branch_of(CONTRARY, index).equations(1))
            self.assertFalse(self.check(Shut(equal, [(0, 1)] * 2, 1), CONTRARY, index))

    def test_known(self):
        known = [(1, (2, 3)), (2, (2, 3))]
        sheet = sheet_of(branch_of(HALF), 2, (0, 0, 1), known)
        self.assertIsInstance(sheet, Shut)
        self.assertTrue(self.check(sheet, HALF, 0, known))
        self.assertFalse(self.check(sheet, HALF, 0))
        self.assertFalse(self.check(sheet, HALF, 0, [(1, (2, 3)), (2, (1, 3))]))


class RandomTest(unittest.TestCase):
    def test_sheets_of_the_tableau(self):
        bounds = shuts = 0
        for scheme in valid_schemes(120, 41, 12):
            for branch, follower in zip(scheme.branches(), all_followers(scheme.statements())):
                for player in range(1, scheme.players + 1):
                    weights = lead_weights(scheme, player, 1) if player > 1 else own_weights(scheme, 1)
                    sheet = sheet_of(branch, player, weights)
                    if isinstance(sheet, Bound):
                        bounds += 1
                        self.assertTrue(sheet.holds(branch, player, weights))
                        self.assertTrue(bound_holds(follower, player, weights, sheet))
                    else:
                        shuts += 1
                        self.assertTrue(sheet.holds(branch))
                        self.assertTrue(shut_holds(follower, sheet))
        self.assertGreater(min(bounds, shuts), 20)


if __name__ == "__main__":
    unittest.main()
