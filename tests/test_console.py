import unittest

from graincourse.console import Console
from graincourse.ratios import ratio_text
from graincourse.shelf import Shelf
from graincourse.sure import lead, sure
from samples import ASK_TEXT, FOUR_TEXT, HALF_TEXT

GIVE_TEXT = "players 1; give whole to 1"
USE_TEXT = "players 3; cut whole by 3 at 1/3 into c, d; give c to 3; use half for 2, 1 on d"


class CheckedTest(unittest.TestCase):
    def setUp(self):
        self.console = Console()
        self.lines = []

    def check(self, *pairs):
        """Carry out lines, each with its answer, all of which are logged."""
        for line, answer in pairs:
            self.assertEqual(self.console.execute(line), answer, line)
            self.lines.append((line, answer))
            self.assertEqual([self.console.log(), len(self.console)], [self.lines, len(self.lines)])


class ExamplesTest(CheckedTest):
    def test_example(self):
        self.check((f"define half {HALF_TEXT}", "done"), ("sure half 2", "1/2"), ("sure third 1", "error unknownname"),
                   ("sure half 3", "error unknownplayer"))
        self.assertEqual(len(self.console), 4)

    def test_all_words(self):
        self.check(("names", "none"), (f"define half {HALF_TEXT}", "done"), (f"define ask {ASK_TEXT}", "done"),
                   ("names", "ask half"), (f"define both {USE_TEXT}", "done"), ("names", "ask both half"),
                   ("show half", HALF_TEXT), ("show both", USE_TEXT), ("size half", "2"), ("size ask", "3"),
                   ("size both", "2"), ("sure ask 1", "0"), ("keep ask 1", "1/2"), ("sure ask 2", "1/3"),
                   ("keep ask 2", "1/3"), ("lead ask 1 2", "-1"), ("lead half 1 2", "0"), ("lead half 2 2", "0"),
                   ("sure both 3", "1/3"), ("drop ask", "done"), ("undo", "done"), ("undo", "done"), ("redo", "done"),
                   ("names", "ask both half"))

    def test_lead(self):
        shelf = Shelf()
        shelf.define_text("four", FOUR_TEXT)
        self.console = Console(shelf)
        for one in range(1, 5):
            for other in range(1, 5):
                value = lead(shelf.scheme("four"), one, other).value
                self.check((f"lead four {one} {other}", ratio_text(value)))
            for word, honest in (("sure", False), ("keep", True)):
                value = sure(shelf.scheme("four"), one, honest=honest).value
                self.check((f"{word} four {one}", ratio_text(value)))


class UnknownTest(CheckedTest):
    def test_counts_of_words(self):
        self.check((f"define half {HALF_TEXT}", "done"))
        for line in ("define", "define half", "drop", "drop half half", "undo 1", "undo half", "redo half",
                     "names half",
                     "names none", "show", "show half half", "size", "size half 1", "sure", "sure half",
                     "sure half 1 2",
                     "keep half", "keep 1", "lead half 1", "lead half", "lead half 1 2 1", "lead half 1 2 x"):
            self.check((line, "unknown"))
        self.assertEqual(self.console.shelf_there().history(), (1, 0))

    def test_other_words(self):
        for line in ("", "x", "Names", "NAMES", "name", "quit", "Define half players 1", "defines a players 1", "UNDO",
                     "batch", "preview half", "history", "define\thalf players 1", "log", "players 1", "done"):
            self.check((line, "unknown"))

    def test_spaces(self):
        self.check((f"define half {HALF_TEXT}", "done"))
        for line in (" ", "  ", " names", "names ", "  names", "sure  half 1", "sure half  1", "sure half 1 ",
                     " sure half 1", "define  half players 1", "define half players  1", f"define half {HALF_TEXT} ",
                     f" define half {HALF_TEXT}", "define half ", "define  ", "drop ", "drop  half", "undo ",
                     "show half "):
            self.check((line, "unknown"))
        self.assertEqual(self.console.shelf_there().history(), (1, 0))

    def test_numbers(self):
        self.check((f"define half {HALF_TEXT}", "done"))
        for number in ("01", "00", "001", "1000", "0000", "-1", "+1", "1.0", "1/1", "one", "1,", "a", "1_0", "1\n",
                       "10 0 "):
            for line in (f"sure half {number}", f"keep half {number}", f"lead half {number} 1", f"lead half 1 {number}",
                         f"sure nobody {number}", f"lead nobody {number} {number}"):
                self.check((line, "unknown"))
        for number in ("0", "3", "10", "99", "100", "999"):
            for line in (f"sure half {number}", f"keep half {number}", f"lead half {number} 1", f"lead half 1 {number}",
                         f"lead half {number} {number}"):
                self.check((line, "error unknownplayer"))

    def test_line_feeds(self):
        self.check(("names\n", "unknown"), ("\n", "unknown"), ("undo\nundo", "unknown"),
                   ("drop a\n", "error unknownname"),
                   ("define a players 1;\ngive whole to 1", "error parseerror"))


class ErrorsTest(CheckedTest):
    def test_words_of_errors(self):
        self.check(
            ("undo", "error nothingleft"), ("redo", "error nothingleft"), ("drop half", "error unknownname"),
            ("show half", "error unknownname"), ("size half", "error unknownname"),
            ("sure half 1", "error unknownname"),
            ("keep half 1", "error unknownname"), ("lead half 1 2", "error unknownname"),
            ("define half players", "error parseerror"), ("define half players 6", "error parseerror"),
            ("define half x", "error parseerror"), ("define Half players 1", "error invalidname"),
            ("define half players 1; give whole.1 to 1", "error invalidstatement"),
            ("define half players 1; drop x", "error unfit"),
            ("define half players 1; use half for 1 on a", "error cycle"),
            ("define half players 1; use a for 1 on whole", "error unknownname"),
            ("define half " + "; ".join(["players 1"] + ["drop x"] * 61), "error toolarge"), ("names", "none"),
            ("define a players 1", "done"), ("define b players 1; use a for 1 on whole", "done"),
            ("drop a", "error inuse"), ("names", "a b"))

    def test_order_of_errors(self):
        self.check(
            ("define A players", "error parseerror"), ("define A players 1; give a.1 to 1", "error invalidname"),
            ("sure half 9", "error unknownname"), ("keep Half 0", "error unknownname"),
            ("lead half 0 0", "error unknownname"), (f"define half {HALF_TEXT}", "done"),
            ("lead half 9 1", "error unknownplayer"), ("lead half 1 9", "error unknownplayer"),
            ("define half players 1; drop a.1; use x for 1 on whole", "error invalidstatement"))

    def test_any_word_is_a_name(self):
        for name in ("A", "1", "a.1", "abcdefghijk", "=", "names", "-", ";", "a,"):
            self.check((f"show {name}", "error unknownname"), (f"size {name}", "error unknownname"),
                       (f"sure {name} 1", "error unknownname"), (f"drop {name}", "error unknownname"))
            answer = "done" if name == "names" else "error invalidname"
            self.check((f"define {name} {GIVE_TEXT}", answer))

    def test_nothing_changes(self):
        self.check(("define a players 1", "done"), ("define b players 1", "done"), ("undo", "done"))
        for line in ("define c players 1; drop x", "drop b", "names", "show a", "sure a 1", "nothing", "lead a 1 1"):
            self.console.execute(line)
        self.assertEqual(self.console.shelf_there().history(), (1, 1))
        self.assertEqual([self.console.execute("redo"), self.console.execute("names")], ["done", "a b"])


class ShelvesTest(CheckedTest):
    def test_this_very_shelf(self):
        for shelf in (Shelf(), Shelf()):
            shelf.define("a", 1, [])
            shelf.undo()
            self.console, self.lines = Console(shelf=shelf), []
            self.assertIs(self.console.shelf_there(), shelf)
            self.check(("names", "none"), ("redo", "done"), ("names", "a"))
            shelf.define("b", 1, [("give", "whole", 1)])
            self.check(("names", "a b"), ("sure b 1", "1"), ("undo", "done"))
            self.assertEqual([shelf.listing(), shelf.history()], [["a"], (1, 1)])

    def test_new_shelf(self):
        one, other, third = Console(), Console(None), Console(shelf=None)
        one.execute("define a players 1")
        self.assertEqual([other.execute("names"), third.execute("names"), one.execute("names")], ["none", "none", "a"])
        self.assertIsInstance(one.shelf_there(), Shelf)
        self.assertIs(one.shelf_there(), one.shelf_there())

    def test_two_consoles(self):
        shelf = Shelf()
        one, other = Console(shelf), Console(shelf)
        self.assertEqual(one.execute(line="define a players 1"), "done")
        self.assertEqual([other.execute("names"), other.execute("undo"), one.execute("names")], ["a", "done", "none"])
        self.assertEqual([len(one), len(other)], [2, 2])
        self.assertEqual([one.log(), other.log()], [[("define a players 1", "done"), ("names", "none")],
                                                    [("names", "a"), ("undo", "done")]])

    def test_log_is_new(self):
        self.check(("names", "none"), ("", "unknown"), ("undo", "error nothingleft"))
        self.console.log().clear()
        self.assertEqual(self.console.log(), self.lines)


if __name__ == "__main__":
    unittest.main()
