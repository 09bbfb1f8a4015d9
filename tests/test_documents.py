import unittest

from graincourse.documents import document, read_document
from graincourse.errors import InvalidDocument
from graincourse.shelf import Shelf
from samples import ALL_KINDS_TEXT, ASK_TEXT, HALF_TEXT, LONE_TEXT, ask, nested_asks

BOTH_TEXT = "players 3; cut whole by 3 at 1/3 into c, d; give c to 3; use half for 2, 1 on d"
GIVE_TEXT = "players 1; give whole to 1"


def shelf_of(*pairs):
    shelf = Shelf()
    for name, text in pairs:
        shelf.define_text(name, text)
    return shelf


# The order of the rows is: ask, half, both, kinds, upon, zero.
SHELF = shelf_of(("half", HALF_TEXT), ("zero", "players 1"), ("both", BOTH_TEXT), ("ask", ASK_TEXT),
                 ("kinds", ALL_KINDS_TEXT), ("upon", "players 4; use both for 4, 1, 2 on whole"))
ROWS = ["graincourse", f"ask = {ASK_TEXT}", f"half = {HALF_TEXT}", f"both = {BOTH_TEXT}", f"kinds = {ALL_KINDS_TEXT}",
        "upon = players 4; use both for 4, 1, 2 on whole", "zero = players 1"]


def text_of(rows):
    return "".join(row + "\n" for row in rows)


class DocumentTest(unittest.TestCase):
    def test_example(self):
        shelf = Shelf()
        shelf.define("one", 1, [("give", "whole", 1)])
        self.assertEqual(document(shelf), "graincourse\none = players 1; give whole to 1\n")

    def test_rows(self):
        self.assertEqual(document(shelf=SHELF), text_of(ROWS))
        self.assertEqual(document(Shelf()), "graincourse\n")

    def test_nothing_changes(self):
        before = [SHELF.listing(), SHELF.history()]
        self.assertEqual(document(SHELF), document(SHELF))
        self.assertEqual([SHELF.listing(), SHELF.history()], before)


class ReadTest(unittest.TestCase):
    def wrong(self, text, row):
        with self.assertRaises(InvalidDocument) as caught:
            read_document(text)
        self.assertIs(caught.exception.__class__, InvalidDocument)
        self.assertEqual(caught.exception.row, row, text)

    def test_there_and_back(self):
        for shelf in (SHELF, Shelf(), shelf_of(("lone", LONE_TEXT))):
            read = read_document(text=document(shelf))
            self.assertIsInstance(read, Shelf)
            self.assertTrue(read == shelf)
            self.assertEqual([read.history(), document(read), list(read.in_order())],
                             [(0, 0), document(shelf), list(shelf.in_order())])

    def test_independent(self):
        text = document(SHELF)
        one, other = read_document(text), read_document(text)
        one.drop("zero")
        self.assertEqual([len(one), len(other), len(SHELF), one.history(), other.history()],
                         [5, 6, 6, (1, 0), (0, 0)])
        one.undo()
        self.assertTrue(one == other)

    def test_nested_asks(self):
        shelf = Shelf()
        shelf.define("deep", 1, [ask(nested_asks(19, "yes"), nested_asks(19, "no"))])
        self.assertTrue(read_document(document(shelf)) == shelf)

    def test_other_orders(self):
        for order in ([0, 6, 5, 3, 4, 2, 1], [0, 2, 1, 3, 6, 4, 5], [0, 2, 3, 5, 1, 4, 6], [0, 1, 2, 4, 6, 3, 5]):
            rows = [ROWS[at] for at in order]
            if rows.index(ROWS[2]) < rows.index(ROWS[3]) < rows.index(ROWS[5]):
                read = read_document(text_of(rows))
                self.assertTrue(read == SHELF)
                self.assertEqual([document(read), read.history()], [text_of(ROWS), (0, 0)])
            else:
                # A row that uses a name of a later row is wrong.
                self.wrong(text_of(rows), min(rows.index(ROWS[at]) for at in (3, 5)
                                              if rows.index(ROWS[at]) < rows.index(ROWS[{3: 2, 5: 3}[at]])))

    def test_first_row(self):
        for text in ("", "\n", "graincourse", "Graincourse\n", "graincourse \n", " graincourse\n", "graincours\n",
                     "grain\ncourse\n", "graincourse\r\n", "\ngraincourse\n", "graincourse;\n", text_of(ROWS[1:]),
                     "graincourse one = players 1\n", "x\nalso wrong\n", document(SHELF)[1:]):
            self.wrong(text, 0)

    def test_removed(self):
        for at, row in [(1, None), (2, 2), (3, 4), (4, None), (5, None), (6, None)]:
            rows = ROWS[:at] + ROWS[at + 1:]
            if row is None:
                self.assertEqual(len(read_document(text_of(rows))), 5)
            else:
                self.wrong(text_of(rows), row)

    def test_doubled(self):
        for at in range(len(ROWS)):
            self.wrong(text_of([*ROWS[:at + 1], *ROWS[at:]]), at + 1)
            self.wrong(text_of([*ROWS, ROWS[at]]), 7)
        # Also with another outline, which by itself could be defined.
        self.wrong(text_of([*ROWS, "zero = players 2"]), 7)
        self.wrong("graincourse\na = players 1\na = players 1; give whole to 1\n", 2)

    def test_moved(self):
        self.wrong(text_of([ROWS[0], ROWS[3], *ROWS[1:3], *ROWS[4:]]), 1)
        self.wrong(text_of([*ROWS[:3], ROWS[5], *ROWS[3:5], ROWS[6]]), 3)
        self.wrong(text_of([ROWS[1], ROWS[0], *ROWS[2:]]), 0)

    def test_between(self):
        for row in ("a", "a=players 1", "a =players 1", "a= players 1", "a  = players 1", "a =  players 1",
                    "a := players 1",
                    " = players 1", "= players 1", "", " ", "a = ", "a = = players 1", " a = players 1", "a players 1"):
            self.wrong(text_of(["graincourse", "b = players 1", row, "also wrong"]), 2)

    def test_defines_that_raise(self):
        for row in ("A = players 1", "abcdefghi = players 1", "a.1 = players 1", "a1 = players 1", "a = players 0",
                    "a = players 6", "a = players 1;", "a = players 1; give whole to 2",
                    "a = players 1; give whole.1 to 1",
                    "a = players 1; give a to 1", "a = players 1; use a for 1 on whole",
                    "a = players 1; use c for 1 on whole",
                    "a = players 2; use b for 1, 2 on whole", "a = " + "; ".join(["players 1"] + ["drop x"] * 61),
                    "a = players 1; ask 1 if whole is 1 of whole; else", "a = players 1; else"):
            self.wrong(text_of(["graincourse", "b = players 1", row, "c = players 1"]), 2)

    def test_nine_rows(self):
        rows = ["graincourse", *[f"{name} = {GIVE_TEXT}" for name in "abcdefgh"]]
        self.assertEqual(len(read_document(text_of(rows))), 8)
        self.wrong(text_of([*rows, "i = players 1"]), 9)

    def test_behind_the_last_line_feed(self):
        text = document(SHELF)
        for rest in ("x", " ", "a = players 1", "graincourse", "zero = players 1"):
            self.wrong(text + rest, 7)
            self.wrong("graincourse\n" + rest, 1)
        for rest in ("\n", "\n\n", " \n"):
            self.wrong(text + rest, 7)
        self.wrong("graincourse\nwrong\nrest", 1)

    def test_cut_off(self):
        text = document(SHELF)
        for end in range(len(text)):
            part = text[:end]
            if part.endswith("\n"):
                self.assertEqual(len(read_document(part)), part.count("\n") - 1)
            else:
                self.wrong(part, part.count("\n"))

    def test_changed_in_one_character(self):
        text = document(SHELF)
        told = {}
        for at in range(len(text)):
            for sign in ("x", " ", "\n", "1", ""):
                changed = text[:at] + sign + text[at + 1:]
                try:
                    told["read"] = told.get("read", 0) + (document(read_document(changed)) is not None)
                except InvalidDocument as error:
                    first = text[:at].count("\n")
                    # No row in front of the changed one is wrong.
                    self.assertGreaterEqual(error.row, first)
                    told["wrong"] = told.get("wrong", 0) + 1
        self.assertGreater(told["wrong"], 8 * told["read"])


if __name__ == "__main__":
    unittest.main()
