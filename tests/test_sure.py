import copy
import unittest
from fractions import Fraction

from certificates import bound_holds, points_of, satisfies, shut_holds, weighted_worth
from graincourse.errors import InvalidWeights, UnknownPlayer
from graincourse.ratios import is_fraction, reduced
from graincourse.schemes import Scheme, lead_weights, own_weights
from graincourse.sheets import Bound, Sheet, Shut
from graincourse.sure import Answer, check_grains, check_sheets, lead, span, sure
from model import all_followers
from samples import (
    ALL_KINDS, ASK_TEXT, FOUR_TEXT, HALF_TEXT, LONE_TEXT, MANY, NO_ENVY, nested_asks, pick, valid_schemes)

HALF = Scheme.read(HALF_TEXT)
ASK = Scheme.read(ASK_TEXT)
GREAT = 10 ** 12 - 1
CUT = ("cut", "whole", 1, (1, 2), "a", "b")


def cut_text(share):
    return (f"players 2; cut whole by 1 at {share} into a, b; pick greatest of a, b by 2 as x, y; "
            "give x to 2; give y to 1")


# A side that player 1 cannot take, and one that only player 2 cannot take.
CLOSED = Scheme(3, [
    ("cut", "whole", 2, (1, 3), "a", "b"),
    ("ask", 2, "a", (1, 1), "b", (("give", "a", 1), ("give", "b", 3)), (
        ("ask", 1, "a", (1, 1), "b", (
            ("ask", 1, "a", (1, 2), "b", (("give", "a", 1), ("give", "b", 2)), (("give", "a", 2), ("give", "b", 3))),
        ), (("give", "b", 1), ("give", "a", 2))),
    )),
])


def key_of(answer):
    """All that an answer tells, as values that can be compared."""
    sheets = [(sheet.__class__, sheet.equal, sheet.above, sheet.numbers()) for sheet in answer.sheets]
    return [answer.value, answer.place, answer.grains, sheets]


class CheckedTest(unittest.TestCase):
    def check(self, scheme, player, weights=None, honest=False):
        """The value of an answer, whose sheets and grains show by the test's own sums that it is the least."""
        answer = sure(scheme, player, weights, honest=honest)
        weights = own_weights(scheme, player) if weights is None else weights
        self.assertIsInstance(answer, Answer)
        self.assertTrue(is_fraction(answer.value))
        followers = all_followers(scheme.statements())
        self.check_all_sheets(followers, scheme, player, weights, honest, answer)
        self.check_all_grains(followers, scheme, player, weights, honest, answer)
        self.assertIs(
            check_sheets(scheme, player, weights, answer.value, answer.sheets, honest=honest), True)
        self.assertIs(
            check_grains(scheme, player, weights, answer.value, answer.place, answer.grains, honest=honest), True)
        return Fraction(*answer.value)

    def check_all_sheets(self, followers, scheme, player, weights, honest, answer):
        self.assertIsInstance(answer.sheets, list)
        self.assertEqual(len(answer.sheets), len(followers))
        for follower, sheet in zip(followers, answer.sheets):
            if isinstance(sheet, Bound):
                self.assertGreaterEqual(Fraction(*sheet.value), Fraction(*answer.value))
                self.assertTrue(bound_holds(follower, player, weights, sheet))
            else:
                self.assertIsInstance(sheet, Shut)
                self.assertIn(sheet.player, range(1, scheme.players + 1) if honest else [player])
                self.assertTrue(shut_holds(follower, sheet))

    def check_all_grains(self, followers, scheme, player, weights, honest, answer):
        self.assertIsInstance(answer.grains, list)
        self.assertIn(answer.place, range(len(followers)))
        follower = followers[answer.place]
        points = points_of(follower, scheme.players, answer.grains)
        self.assertIsNotNone(points)
        for keeper in range(1, scheme.players + 1) if honest else [player]:
            self.assertTrue(satisfies(follower, keeper, points[keeper]))
        self.assertEqual(weighted_worth(follower, weights, points[player]), Fraction(*answer.value))

    def shares(self, scheme, honest=False):
        return [self.check(scheme, player, honest=honest) for player in range(1, scheme.players + 1)]


class KnownTest(CheckedTest):
    def test_examples(self):
        self.assertEqual([sure(HALF, 1).value, sure(HALF, 2).value, lead(HALF, 1, 2).value],
                         [(1, 2), (1, 2), (0, 1)])
        self.assertEqual([len(ASK), sure(ASK, 1).value, sure(ASK, 1, honest=True).value], [3, (0, 1), (1, 2)])

    def test_cut_and_pick(self):
        for share, least in [("1/2", Fraction(1, 2)), ("1/3", Fraction(1, 3)), ("3/4", Fraction(1, 4)), ("1", 0),
                             ("0", 0), ("49/99", Fraction(49, 99)), ("1/99", Fraction(1, 99))]:
            scheme = Scheme.read(cut_text(share))
            for honest in (False, True):
                self.assertEqual(self.shares(scheme, honest), [least, Fraction(1, 2)], share)

    def test_pick_of_the_least(self):
        scheme = Scheme.read(cut_text("1/3").replace("greatest", "least"))
        self.assertEqual(self.shares(scheme), [Fraction(1, 3), 0])
        self.assertEqual([span(scheme, 1), span(scheme, 2)], [((1, 3), (2, 3)), ((0, 1), (1, 2))])

    def test_everything_and_nothing(self):
        for honest in (False, True):
            self.assertEqual(self.shares(Scheme(1, [("give", "whole", 1)]), honest), [1])
            self.assertEqual(self.shares(Scheme(3, [("give", "whole", 2)]), honest), [0, 1, 0])
            for statements in ([], [("drop", "whole")], [CUT, ("drop", "a")], [("ask", 1, "whole", (1, 1), "whole",
                                                                                (("drop", "whole"),), ())]):
                self.assertEqual(self.shares(Scheme(5, statements), honest), [0] * 5)

    def test_three_players(self):
        third = Fraction(1, 3)
        scheme = Scheme.read(LONE_TEXT)
        self.assertEqual([self.shares(scheme), self.shares(scheme, True)], [[third] * 3, [third] * 3])
        self.assertEqual([span(scheme, player) for player in (1, 2, 3)],
                         [((1, 3), (1, 3)), ((1, 3), (2, 3)), ((1, 3), (1, 1))])

    def test_no_envy(self):
        scheme = Scheme(3, NO_ENVY)
        self.assertEqual(len(scheme), 60)
        for one in (1, 2, 3):
            for other in (1, 2, 3):
                weights = lead_weights(scheme, one, other)
                self.assertEqual([self.check(scheme, one, weights), lead(scheme, one, other).value], [0, (0, 1)])
        self.assertEqual(self.shares(scheme), [Fraction(1, 3), 0, 0])

    def test_four_players(self):
        scheme = Scheme.read(FOUR_TEXT)
        quarter = Fraction(1, 4)
        self.assertEqual([self.shares(scheme), self.shares(scheme, True)], [[quarter, quarter, 0, 0]] * 2)

    def test_five_players(self):
        cuts = [("cut", "whole", 1, (1, 5), "a", "r"), ("cut", "r", 1, (1, 4), "b", "r"),
                ("cut", "r", 1, (1, 3), "c", "r"), ("cut", "r", 1, (1, 2), "d", "e")]
        gives = [("give", name, player) for player, name in enumerate("abcde", 1)]
        swaps = [pick(2, "ba"), pick(3, "ca"), pick(4, "da"), pick(5, "ea")]
        scheme = Scheme(5, [*cuts, *swaps, *gives])
        self.assertEqual(self.shares(scheme), [Fraction(1, 5), 0, 0, 0, 0])
        self.assertEqual([lead(scheme, 5, 1).value, lead(scheme, 5, 2).value], [(0, 1), (-1, 1)])
        self.assertEqual([self.check(scheme, 5, lead_weights(scheme, 5, 1), True),
                          self.check(scheme, 1, (0, 0, 1, 1, 1, 1))], [0, Fraction(4, 5)])

    def test_honest_gives_more(self):
        self.assertEqual(self.shares(ASK), [0, Fraction(1, 3)])
        self.assertEqual(self.shares(ASK, True), [Fraction(1, 2), Fraction(1, 3)])

    def test_sides_that_cannot_be_taken(self):
        # The first side is closed to player 2 alone: against all, player 1 has to fear it.
        self.assertEqual(self.shares(CLOSED), [0, Fraction(1, 3), 0])
        self.assertEqual(self.shares(CLOSED, True), [Fraction(1, 2), Fraction(1, 3), 0])
        closed = [[isinstance(sheet, Shut) for sheet in sure(CLOSED, 1, honest=honest).sheets]
                  for honest in (False, True)]
        self.assertEqual(closed, [[False, False, True, False], [True, False, True, False]])
        self.assertEqual(sure(CLOSED, 1, honest=True).sheets[0].player, 2)

    def test_nested_asks(self):
        for side in ("yes", "no"):
            scheme = Scheme(1, [*nested_asks(20, side), ("give", "whole", 1)])
            self.assertEqual([len(scheme), self.check(scheme, 1), self.check(scheme, 1, (0, -3), True)], [21, 1, -3])
            # The whole is always more than half of itself.
            shut = [isinstance(sheet, Shut) for sheet in sure(scheme, 1).sheets]
            self.assertEqual(shut, [False, *[True] * 20])


class WeightsTest(CheckedTest):
    def test_default(self):
        for scheme in (HALF, ASK, CLOSED):
            for player in range(1, scheme.players + 1):
                for honest in (False, True):
                    answers = [sure(scheme, player, honest=honest), sure(scheme, player, None, honest=honest),
                               sure(scheme, player, own_weights(scheme, player), honest=honest),
                               sure(scheme, player, weights=list(own_weights(scheme, player)), honest=honest)]
                    for answer in answers:
                        self.assertEqual(key_of(answer), key_of(answers[0]))

    def test_default_is_not_honest(self):
        self.assertEqual(key_of(sure(ASK, 1)), key_of(sure(ASK, 1, honest=False)))
        self.assertEqual([span(ASK, 1), span(ASK, 1, honest=True)], [((0, 1), (1, 1)), ((1, 2), (1, 1))])
        self.assertEqual([lead(ASK, 1, 2).value, lead(ASK, 1, 2, honest=True).value], [(-1, 1), (0, 1)])

    def test_both_signs(self):
        for weights, value in [
                ((0, 3, -2), Fraction(1, 2)), ((0, -2, 3), Fraction(1, 2)), ((5, -1, -1), -1), ((0, 0, 0), 0),
                ((7, 7, 7), 7), ([-4, -4, -4], -4), ((0, GREAT, -GREAT), 0), ((GREAT, -GREAT, GREAT - 1),
                                                                                Fraction(-1, 2))]:
            for honest in (False, True):
                self.assertEqual(self.check(HALF, 1, weights, honest), value)

    def test_of_nobody(self):
        scheme = Scheme(2, [CUT, ("give", "a", 2)])
        for player, weights, value in [
                (1, (2, 0, 0), 1), (1, (-2, 0, 4), 1), (2, (3, 0, 1), 1), (2, (-3, 9, 1), -3), (1, (1, 1, 1), 1)]:
            self.assertEqual(self.check(scheme, player, weights), value)

    def test_one_number_for_all(self):
        for scheme in (HALF, ASK, CLOSED, Scheme.read(LONE_TEXT)):
            for number in (1, 0, -GREAT, GREAT):
                self.assertEqual(self.check(scheme, 1, [number] * (scheme.players + 1)), number)

    def test_arguments_stay(self):
        weights = [0, 3, -2]
        sure(HALF, 1, weights)
        self.assertEqual(weights, [0, 3, -2])

    def test_wrong_number(self):
        answer = sure(HALF, 1)
        for weights in ((), (1,), (0, 1), [0, 1, 0, 0], (0,) * 6):
            for call in (lambda player: sure(HALF, player, weights),
                         lambda player: sure(HALF, player, weights, honest=True),
                         lambda player: check_sheets(HALF, player, weights, (0, 1), answer.sheets),
                         lambda player: check_sheets(HALF, player, weights, (0, 1), []),
                         lambda player: check_grains(HALF, player, weights, (0, 1), 0, answer.grains),
                         lambda player: check_grains(HALF, player, weights, (0, 1), 99, [])):
                for player in (1, 2):
                    self.assertRaises(InvalidWeights, call, player)
                # The player is looked at first.
                for player in (0, -1, 3):
                    with self.assertRaises(UnknownPlayer) as caught:
                        call(player)
                    self.assertEqual(caught.exception.player, player)


class PlayersTest(unittest.TestCase):
    def wrong(self, player, call):
        with self.assertRaises(UnknownPlayer) as caught:
            call()
        self.assertEqual([caught.exception.player, caught.exception.word], [player, "unknownplayer"])

    def test_unknown(self):
        for honest in (False, True):
            for player in (0, -1, 3, 6, 10 ** 29):
                self.wrong(player, lambda: sure(HALF, player, honest=honest))
                self.wrong(player, lambda: span(HALF, player, honest=honest))
                self.wrong(player, lambda: lead(HALF, player, 1, honest=honest))
                self.wrong(player, lambda: lead(HALF, 1, player, honest=honest))
                self.wrong(player, lambda: lead(HALF, player, 9, honest=honest))
                self.wrong(player, lambda: check_sheets(HALF, player, (0, 0, 0), (0, 1), [], honest=honest))
                self.wrong(player, lambda: check_grains(HALF, player, (0, 0, 0), (0, 1), 0, [], honest=honest))

    def test_lead_over_oneself(self):
        for scheme in (HALF, ASK, CLOSED):
            for player in range(1, scheme.players + 1):
                self.assertEqual(lead(scheme, player, player).value, (0, 1))
                self.assertEqual(lead(scheme, player, player, honest=True).value, (0, 1))

    def test_lead_is_an_answer(self):
        weights = lead_weights(CLOSED, 1, 3)
        for honest in (False, True):
            answer = lead(scheme=CLOSED, one=1, other=3, honest=honest)
            self.assertEqual(key_of(answer), key_of(sure(CLOSED, 1, weights, honest=honest)))
            self.assertTrue(check_sheets(CLOSED, 1, weights, answer.value, answer.sheets, honest=honest))

    def test_span(self):
        for scheme in (HALF, ASK, CLOSED, Scheme(3, ALL_KINDS)):
            for player in range(1, scheme.players + 1):
                for honest in (False, True):
                    low, high = span(scheme=scheme, player=player, honest=honest)
                    self.assertEqual(low, sure(scheme, player, honest=honest).value)
                    turned = [-weight for weight in own_weights(scheme, player)]
                    above, below = sure(scheme, player, turned, honest=honest).value
                    self.assertEqual(high, (-above, below))
        self.assertEqual(span(Scheme(2, [("give", "whole", 1)]), 2), ((0, 1), (0, 1)))
        self.assertEqual(span(Scheme(2, [CUT, ("give", "a", 1)]), 1), ((1, 2), (1, 2)))


class AnswerTest(unittest.TestCase):
    def test_equal_calls(self):
        for scheme in (HALF, CLOSED):
            for honest in (False, True):
                first = sure(scheme, 1, honest=honest)
                before = copy.deepcopy(key_of(first))
                second = sure(scheme, 1, honest=honest)
                self.assertIsNot(first, second)
                self.assertEqual(key_of(second), before)
                first.sheets[0].equal.clear()
                first.sheets.clear()
                first.grains.append("other")
                first.value = first.place = None
                self.assertEqual([key_of(second), key_of(sure(scheme, 1, honest=honest))], [before, before])

    def test_kinds(self):
        answer = sure(scheme=ASK, player=2, weights=(1, -1, 2), honest=True)
        self.assertIsInstance(answer.place, int)
        self.assertEqual([len(answer.sheets), {len(grain) for grain in answer.grains}], [3, {2}])
        for way, worths in answer.grains:
            self.assertEqual([way.__class__, worths.__class__, len(worths)], [tuple, tuple, 2])
        for sheet in answer.sheets:
            self.assertIn(sheet.__class__, (Bound, Shut))


class CheckSheetsTest(unittest.TestCase):
    def setUp(self):
        self.weights = (0, 1, 0, 0)
        self.plain = sure(CLOSED, 1)
        self.honest = sure(CLOSED, 1, honest=True)

    def check(self, sheets, value, player=1, honest=False, weights=None):
        weights = self.weights if weights is None else weights
        before = list(sheets)
        told = check_sheets(CLOSED, player, weights, value, sheets, honest=honest)
        self.assertEqual(list(sheets), before)
        self.assertIs(check_sheets(CLOSED, player, list(weights), value, tuple(sheets), honest=honest), told)
        return told

    def test_values(self):
        for value, told in [((0, 1), True), ((-1, 2), True), ((1, 10 ** 9), False), ((1, 1), False)]:
            self.assertIs(self.check(self.plain.sheets, value), told)
        for value, told in [((1, 2), True), ((1, 3), True), ((500001, 1000000), False)]:
            self.assertIs(self.check(self.honest.sheets, value, honest=True), told)

    def test_names(self):
        self.assertTrue(check_sheets(scheme=CLOSED, player=1, weights=self.weights, value=(0, 1),
                                     sheets=self.plain.sheets, honest=False))

    def test_modes(self):
        # A sheet that shuts a branch to player 2 counts only if that player keeps the rules.
        self.assertFalse(self.check(self.honest.sheets, (0, 1)))
        self.assertFalse(self.check(self.honest.sheets, (-99, 1)))
        self.assertTrue(self.check(self.plain.sheets, (0, 1), honest=True))
        self.assertFalse(check_sheets(CLOSED, 1, self.weights, (0, 1), self.honest.sheets))
        self.assertTrue(check_sheets(CLOSED, 1, self.weights, (0, 1), self.plain.sheets))

    def test_order_and_number(self):
        for value in ((0, 1), (-99, 1)):
            for sheets in ([], self.plain.sheets[:-1], self.plain.sheets[1:], self.plain.sheets[::-1],
                           [*self.plain.sheets, self.plain.sheets[0]]):
                self.assertFalse(self.check(sheets, value))

    def test_other_player_and_weights(self):
        self.assertFalse(self.check(self.plain.sheets, (0, 1), player=2, weights=(0, 0, 1, 0)))
        self.assertFalse(self.check(self.honest.sheets, (1, 2), player=3, weights=(0, 0, 0, 1), honest=True))
        self.assertFalse(self.check(self.honest.sheets, (1, 2), weights=(0, 0, 1, 0), honest=True))
        self.assertTrue(self.check(self.honest.sheets, (1, 2), weights=(0, 2, 0, 0), honest=True))

    def test_bent_numbers(self):
        told = []
        for at, sheet in enumerate(self.honest.sheets):
            for by in (Fraction(1, 1000), Fraction(-1, 1000)):
                for index in range(len(sheet.equal)):
                    told.append(self.check(self.bent(at, index, None, by), (1, 2), honest=True))
                for index in range(len(sheet.above)):
                    told.append(self.check(self.bent(at, None, index, by), (1, 2), honest=True))
        self.assertGreater(told.count(False), len(told) // 3)

    def bent(self, at, equal, above, by):
        """The sheets with one number of one of them changed."""
        sheets = copy.deepcopy(self.honest.sheets)
        numbers, index = (sheets[at].equal, equal) if above is None else (sheets[at].above, above)
        numbers[index] = (Fraction(*numbers[index]) + by).as_integer_ratio()
        return sheets

    def test_numbers_missing_or_added(self):
        for at in range(4):
            for name in ("equal", "above"):
                sheets = copy.deepcopy(self.plain.sheets)
                getattr(sheets[at], name).append((0, 1))
                self.assertFalse(self.check(sheets, (-9, 1)))

    def test_value_of_a_sheet(self):
        sheets = copy.deepcopy(self.plain.sheets)
        at = self.plain.place
        sheets[at].value = (-1, 10 ** 6)
        self.assertEqual([self.check(sheets, (0, 1)), self.check(sheets, (-1, 1))], [False, True])
        sheets[at].value = (1, 10 ** 6)
        self.assertEqual([self.check(sheets, (0, 1)), self.check(sheets, (-1, 1))], [False, False])

    def test_exchanged_sheets(self):
        other = sure(CLOSED, 2).sheets
        for at in (1, 3):
            sheets = [*self.plain.sheets[:at], other[at], *self.plain.sheets[at + 1:]]
            self.assertFalse(self.check(sheets, (0, 1)))

    def test_plain_sheet(self):
        for at in range(4):
            sheets = list(self.plain.sheets)
            sheets[at] = Sheet(sheets[at].equal, sheets[at].above)
            self.assertFalse(self.check(sheets, (-99, 1)))
            self.assertFalse(self.check(sheets, (-99, 1), honest=True))
        scheme = Scheme(1, [])
        self.assertFalse(check_sheets(scheme, 1, (0, 0), (0, 1), [Sheet([], [])]))
        self.assertTrue(check_sheets(scheme, 1, (0, 0), (0, 1), [Bound([], [], (0, 1))]))

    def test_shut_of_nobody(self):
        # Rows that no worths satisfy belong to a player of the scheme, or they count for nothing.
        sheets = list(self.honest.sheets)
        shut = sheets[0]
        self.assertEqual([shut.__class__, shut.player], [Shut, 2])
        for player in (0, 1, 3, 4, 9, -1):
            sheets[0] = Shut(shut.equal, shut.above, player)
            self.assertFalse(self.check(sheets, (-99, 1), honest=True))


class CheckGrainsTest(unittest.TestCase):
    def check(self, answer, scheme=HALF, player=1, honest=False, **changed):
        values = {"weights": own_weights(scheme, player), "value": answer.value, "place": answer.place,
                  "grains": answer.grains, **changed}
        before = copy.deepcopy(values)
        told = check_grains(scheme, player, honest=honest, **values)
        self.assertEqual(values, before)
        values["weights"], values["grains"] = list(values["weights"]), tuple(values["grains"])
        self.assertIs(check_grains(scheme=scheme, player=player, honest=honest, **values), told)
        return told

    def test_returned(self):
        for scheme in (HALF, ASK, CLOSED):
            for player in range(1, scheme.players + 1):
                self.assertTrue(self.check(sure(scheme, player), scheme, player))
                honest = sure(scheme, player, honest=True)
                self.assertTrue(self.check(honest, scheme, player, True))
                self.assertTrue(self.check(honest, scheme, player))

    def test_value(self):
        for value in [(0, 1), (1, 3), (-1, 2), (500001, 1000000), (1, 1)]:
            self.assertFalse(self.check(sure(HALF, 1), value=value))

    def test_place(self):
        answer = sure(HALF, 1)
        other = 1 - answer.place
        for place in (-1, -2, 2, 200, 10 ** 29, -10 ** 29):
            self.assertFalse(self.check(answer, place=place))
        # The other branch has the same ways; the halves are the same for the one who cuts, and for the other one.
        self.assertTrue(self.check(answer, place=other))
        long = sure(ASK, 1, (0, -1, 0), honest=True)
        self.assertTrue(self.check(long, ASK, 1, True, weights=(0, -1, 0)))
        for place in {0, 1, 2} - {long.place}:
            self.assertFalse(self.check(long, ASK, 1, True, weights=(0, -1, 0), place=place))

    def test_weights(self):
        answer = sure(HALF, 2)
        self.assertTrue(self.check(answer, player=2))
        self.assertFalse(self.check(answer, player=2, weights=(0, 0, 2)))
        self.assertFalse(self.check(answer, player=2, weights=(0, 0, 0)))

    def test_modes(self):
        worst = sure(ASK, 1)
        self.assertEqual([self.check(worst, ASK), self.check(worst, ASK, honest=True)], [True, False])
        self.assertTrue(check_grains(ASK, 1, (0, 1, 0), worst.value, worst.place, worst.grains))

    def test_other_player(self):
        grains = [((0, 1), ((1, 2), (2, 3))), ((0, 2), ((1, 2), (1, 3)))]
        self.assertTrue(check_grains(HALF, 1, (0, 1, 0), (1, 2), 0, grains, honest=True))
        self.assertTrue(check_grains(HALF, 2, (0, 0, 1), (2, 3), 0, grains, honest=True))
        self.assertFalse(check_grains(HALF, 2, (0, 0, 1), (1, 3), 1, grains))
        # Only the player has to keep the rules, unless all are honest.
        self.assertTrue(check_grains(HALF, 1, (0, 1, 0), (1, 2), 1, grains))
        self.assertFalse(check_grains(HALF, 1, (0, 1, 0), (1, 2), 1, grains, honest=True))

    def test_bent(self):
        answer = sure(HALF, 1)
        (way, worths), *rest = answer.grains
        for grains in ([], rest, [*answer.grains, (way, worths)], [((*way, 0), worths), *rest], [((), worths), *rest],
                       [((0, -1), worths), *rest], [((0,), worths), *rest], [(way, worths[:1]), *rest],
                       [(way, (*worths, (0, 1))), *rest], [(way, ((1, 3), worths[1])), *rest],
                       [(way, (worths[0], (1, 3))), *rest], [(way, ((2, 4), worths[1])), *rest],
                       [(way, ((1, 0), worths[1])), *rest], [(way, ((-1, 2), worths[1])), *rest]):
            self.assertFalse(self.check(answer, grains=grains), grains)
        self.assertTrue(self.check(answer, grains=answer.grains[::-1]))
        moved = [(way, (reduced(1, 3), worths[1])), (rest[0][0], (reduced(2, 3), rest[0][1][1]))]
        for value in ((1, 2), (1, 3), (2, 3)):
            self.assertFalse(self.check(answer, grains=moved, value=value))


class LargeTest(CheckedTest):
    def test_many_branches(self):
        scheme = Scheme(5, MANY)
        self.assertEqual(len(scheme), 200)
        self.assertEqual([self.check(scheme, 1), self.check(scheme, 5, honest=True)], [0, 0])
        self.assertEqual(self.check(scheme, 4, (3, -1, 2, 5, 7, -2), True), -2)

    def test_many_pieces(self):
        cuts = [("cut", "whole" if not index else "r", index % 5 + 1, (1, 20 - index), f"p{chr(97 + index)}", "r")
                for index in range(19)]
        gives = [("give", f"p{chr(97 + index)}", (index + 2) % 5 + 1) for index in range(19)]
        scheme = Scheme(5, [*cuts, *gives, ("give", "r", 1)])
        self.assertEqual([max(branch.size for branch in scheme.branches()), self.shares(scheme)], [39, [0] * 5])
        self.assertEqual(self.check(scheme, 1, (0, 1, 1, 1, 1, 1)), 1)

    def test_random(self):
        closed = 0
        for number, scheme in enumerate(valid_schemes(150, 59, 12)):
            for player in range(1, scheme.players + 1):
                weights = [(number * holder * 7) % 11 - 5 for holder in range(scheme.players + 1)]
                plain, honest = [[self.check(scheme, player, each, mode) for each in (None, weights)]
                                 for mode in (False, True)]
                self.assertTrue(honest[0] >= plain[0] and honest[1] >= plain[1])
                closed += any(isinstance(sheet, Shut) for sheet in sure(scheme, player).sheets)
        self.assertGreater(closed, 10)


if __name__ == "__main__":
    unittest.main()
