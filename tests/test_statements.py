import copy
import unittest

from graincourse import statements
from graincourse.statements import is_piece, is_plain, ways_through

CUT = ("cut", "whole", 1, (1, 2), "a", "b")
TRIM = ("trim", "a", "b", 2, "c", "d")
PICK2 = ("pick", 1, "greatest", ("a", "b"), ("a", "b"))
PICK3 = ("pick", 2, "least", ("a", "b", "c"), ("x", "y", "z"))
PICK4 = ("pick", 2, "least", ("a", "b", "c", "d"), ("x", "y", "z", "u"))
JOIN = ("join", ("a", "b", "c", "d"), "e")
GIVE = ("give", "a", 2)
DROP = ("drop", "a")


def ask(yes, no):
    return ("ask", 1, "whole", (1, 2), "whole", yes, no)


def listed(statements_given):
    """All branches, as tuples of answers, by going through the statements one by one."""
    branches = [()]
    for statement in statements_given:
        word = statement[0]
        tails = [()]
        if word == "trim":
            tails = [("long",), ("short",)]
        elif word == "pick":
            tails = [(index,) for index in range(len(statement[3]))]
        elif word == "ask":
            tails = [("yes", *rest) for rest in listed(statement[5])]
            tails += [("no", *rest) for rest in listed(statement[6])]
        branches = [(*branch, *tail) for branch in branches for tail in tails]
    return branches


class LimitsTest(unittest.TestCase):
    def test_limits(self):
        self.assertEqual(
            [statements.MOST_PLAYERS, statements.MOST_STATEMENTS, statements.MOST_BRANCHES, statements.MOST_PIECES],
            [5, 60, 200, 40])


class NamesTest(unittest.TestCase):
    def test_example(self):
        self.assertEqual([is_piece("a.3.1"), is_piece("a.0"), is_piece("A")], [True, False, False])

    def test_plain(self):
        for text in ("a", "z", "whole", "abcdefgh", "zzzzzzzz", "else", "end"):
            self.assertIs(is_plain(text), True, text)
        self.assertIs(is_plain(text="half"), True)

    def test_not_plain(self):
        wrong = ["", "abcdefghi", "A", "Half", "halF", "a1", "1", "a.1", "a b", " a", "a ", "a\n", "\n", "a-b", "a_b",
                 ".", "a.", "a,b", "`", "{", "a" * 20000, "\u00e9", "\u00df"]
        for text in wrong:
            self.assertIs(is_plain(text), False, text)

    def test_pieces(self):
        right = ["a", "whole", "abcdefgh", "a.1", "a.9", "a.10", "a.99", "abcdefgh.99", "a.3.1", "a.1.1.1.1.1.1",
                 "abcdefgh.99.99.99.99.99.99"]
        for text in right:
            self.assertIs(is_piece(text), True, text)
        self.assertIs(is_piece(text="b.2"), True)

    def test_wrong_words(self):
        for text in ("", "abcdefghi", "abcdefghi.1", "A", "aB", "A.1", "a1", "a1.1", ".1", "1", "1.1", "1.a", "."):
            self.assertIs(is_piece(text), False, text)

    def test_wrong_suffixes(self):
        wrong = ["a.0", "a.00", "a.01", "a.09", "a.100", "a.999", "a.1.0", "a.0.1", "a.1.01", "a.", "a..1", "a.1.",
                 "a.b", "a.1b", "a.-1", "a.+1", "a. 1", "a.1 ", " a.1", "a .1", "a.1\n", "a.1_1", "a,1",
                 "a.1.1.1.1.1.1.1", "a.\u0661", "a.\u00b2", "a" + ".1" * 9999]
        for text in wrong:
            self.assertIs(is_piece(text), False, text)


class WaysTest(unittest.TestCase):
    def test_no_answers(self):
        self.assertEqual(ways_through([]), 1)
        self.assertEqual(ways_through(()), 1)
        self.assertEqual(ways_through([CUT, JOIN, GIVE, DROP]), 1)

    def test_single(self):
        rows = [(CUT, 1), (TRIM, 2), (PICK2, 2), (PICK3, 3), (PICK4, 4), (JOIN, 1), (GIVE, 1), (DROP, 1),
                (ask((), ()), 2), (ask((TRIM,), ()), 3), (ask((), (PICK4,)), 5), (ask((PICK3, TRIM), (PICK4,)), 10)]
        for statement, ways in rows:
            self.assertEqual(ways_through([statement]), ways, statement)

    def test_in_a_row(self):
        self.assertEqual(ways_through([CUT, PICK2, GIVE, GIVE]), 2)
        self.assertEqual(ways_through([CUT, TRIM, PICK3, PICK3]), 18)
        self.assertEqual(ways_through([TRIM, ask((PICK3,), ()), PICK2]), 16)
        self.assertEqual(ways_through(statements=(PICK2, PICK4)), 8)

    def test_examples(self):
        inside = ask((TRIM, GIVE, GIVE, GIVE), (GIVE, GIVE))
        self.assertEqual(ways_through([CUT, inside]), 3)

    def test_against_listed_branches(self):
        inner = ask((TRIM, ask((PICK3,), (DROP,))), (ask((), (TRIM, TRIM)), PICK2))
        for rows in ([inner], [TRIM, inner, PICK3], [ask((inner,), (inner, TRIM)), GIVE], [PICK4, inner, inner]):
            self.assertEqual(ways_through(rows), len(listed(rows)))

    def test_asks_inside_asks(self):
        one_side, both_sides = (), ()
        for _ in range(20):
            one_side = (ask(one_side, (PICK3,)),)
        for _ in range(10):
            both_sides = (ask(both_sides, both_sides), TRIM)
        self.assertEqual(ways_through(one_side), 61)
        # w(k + 1) = (2 w(k)) * 2 from w(0) = 1
        self.assertEqual(ways_through(both_sides), 4 ** 10)

    def test_far_beyond_the_limit(self):
        self.assertEqual(ways_through([TRIM] * 200), 2 ** 200)
        self.assertEqual(ways_through([PICK4] * 200), 4 ** 200)
        self.assertEqual(ways_through([PICK3, TRIM] * 100), 6 ** 100)
        self.assertEqual(ways_through([ask((PICK4,) * 100, (TRIM,) * 100)] * 2), (4 ** 100 + 2 ** 100) ** 2)

    def test_arguments_do_not_change(self):
        rows = [TRIM, ask((PICK2,), ())]
        before = copy.deepcopy(rows)
        ways_through(rows)
        self.assertEqual(rows, before)


if __name__ == "__main__":
    unittest.main()
