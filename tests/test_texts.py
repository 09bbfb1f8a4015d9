import re
import unittest

from graincourse.errors import (
    DuplicatePiece, GrainError, InvalidStatement, MissingError, ParseError, TooLarge, UnknownPiece)
from graincourse.schemes import Scheme
from samples import ALL_KINDS, ALL_KINDS_TEXT, ASK_TEXT, HALF_TEXT, ask, nested_asks, random_cases

LONG_NAME = "abcdefgh.99.98.10.9.1.99"
PIECE = r"[a-z]{1,8}(?:\.[1-9][0-9]?){0,6}"
SHARE = r"(?:0|[1-9][0-9]?)(?:/[1-9][0-9]?)?"
LISTED = rf"{PIECE}(?:, {PIECE})*"
LINES = [re.compile(line, re.ASCII) for line in (
    rf"(?P<word>cut) (?P<used>{PIECE}) by (?P<player>\d) at (?P<share>{SHARE}) into (?P<new>{PIECE}, {PIECE})",
    rf"(?P<word>trim) (?P<used>{PIECE}) to (?P<like>{PIECE}) by (?P<player>\d) into (?P<new>{PIECE}, {PIECE})",
    rf"(?P<word>pick) (?:greatest|least) of (?P<used>{LISTED}) by (?P<player>\d) as (?P<new>{LISTED})",
    rf"(?P<word>join) (?P<used>{LISTED}) as (?P<new>{PIECE})",
    rf"(?P<word>give) (?P<used>{PIECE}) to (?P<player>\d)",
    rf"(?P<word>drop) (?P<used>{PIECE})",
    rf"(?P<word>ask) (?P<player>\d) if {PIECE} is (?P<share>{SHARE}) of {PIECE}",
    r"(?P<word>use) [a-z]{1,8} for (?P<players>\d(?:, \d)*) on " + PIECE,
)]


def can_stand(line, players):
    """Whether a line is one of a statement or a use, by patterns."""
    found = [match for match in (pattern.fullmatch(line) for pattern in LINES) if match]
    if not found:
        return False
    part = found[0].groupdict()
    chosen = part.get("players", part.get("player", "1")).split(", ")
    used = part.get("used", "").split(", ") + ([part["like"]] if "like" in part else [])
    new = part.get("new", "").split(", ")
    if not all(1 <= int(player) <= players for player in chosen):
        return False
    if any(len(set(names)) < len(names) for names in (chosen, used, new)):
        return False
    if "share" in part and not share_can_stand(part["share"], part["word"]):
        return False
    if part["word"] == "pick" and len(used) != len(new):
        return False
    return part["word"] not in ("pick", "join") or 2 <= len(used) <= 4


def share_can_stand(text, word):
    numerator, _, denominator = text.partition("/")
    above, below = int(numerator), int(denominator or 1)
    lowest = all(above % divisor or below % divisor for divisor in range(2, 100))
    return lowest and denominator != "1" and (word == "ask" or above <= below)


def first_wrong_line(text):
    """The index of the first line that cannot stand, None if there is none."""
    lines = text.split("; ")
    if not re.fullmatch("players [1-5]", lines[0]):
        return 0
    inside = []
    for place, line in enumerate(lines[1:], start=1):
        if line == "else" and inside and inside[-1] == "yes":
            inside[-1] = "no"
        elif line == "end" and inside and inside[-1] == "no":
            inside.pop()
        elif not can_stand(line, int(lines[0][-1])):
            return place
        elif line.startswith("ask "):
            inside.append("yes")
    return len(lines) if inside else None


class TextsTest(unittest.TestCase):
    def check(self, text, place):
        with self.assertRaises(ParseError, msg=text) as caught:
            Scheme.read(text)
        self.assertEqual(caught.exception.place, place, text)

    def outcome(self, made):
        """What a call gives: a scheme, or the word and the field of its error."""
        try:
            return made()
        except (GrainError, MissingError) as error:
            return vars(error)


class WriteTest(TextsTest):
    def test_examples(self):
        for text in (HALF_TEXT, ASK_TEXT, ALL_KINDS_TEXT):
            self.assertEqual(Scheme.read(text).text(), text)
        self.assertEqual(Scheme(3, ALL_KINDS).text(), ALL_KINDS_TEXT)

    def test_no_statements(self):
        for players in (1, 2, 3, 4, 5):
            self.assertEqual(Scheme(players, []).text(), f"players {players}")
            self.assertEqual(Scheme.read(f"players {players}"), Scheme(players, []))

    def test_lines(self):
        cuts = [("cut", "whole", 2, (0, 1), "a", LONG_NAME), ("cut", LONG_NAME, 1, (98, 99), "c.10", "d")]
        rows = [
            (cuts[0], f"cut whole by 2 at 0 into a, {LONG_NAME}"),
            (cuts[1], f"cut {LONG_NAME} by 1 at 98/99 into c.10, d"),
            (("trim", "a", "d", 2, "d.1", "d.2"), "trim a to d by 2 into d.1, d.2"),
            (("pick", 1, "least", ("d", "d.2", "c.10"), ("x", "y", "z")), "pick least of d, d.2, c.10 by 1 as x, y, z"),
            (("pick", 2, "greatest", ("z", "x"), ("x", "z")), "pick greatest of z, x by 2 as x, z"),
            (("join", ("d.1", "x", "y", "z"), "whole"), "join d.1, x, y, z as whole"),
            (("cut", "whole", 1, (1, 1), "a", "b"), "cut whole by 1 at 1 into a, b"),
            (("give", "a", 2), "give a to 2"),
            (("ask", 2, "b", (99, 1), "b", (("drop", "b"),), ()),
             "ask 2 if b is 99 of b; drop b; else; end"),
            (("ask", 1, "b", (3, 4), "b", (), (("drop", "b"),)),
             "ask 1 if b is 3/4 of b; else; drop b; end"),
        ]
        scheme = Scheme(2, [statement for statement, _ in rows[:-1]])
        text = "; ".join(["players 2", *[line for _, line in rows[:-1]]])
        self.assertEqual(scheme.text(), text)
        self.assertEqual(Scheme.read(text), scheme)
        short = Scheme(2, [cuts[0], ("join", ("a", LONG_NAME), "b"), rows[-1][0]])
        self.assertEqual(short.text(), f"players 2; {rows[0][1]}; join a, {LONG_NAME} as b; {rows[-1][1]}")

    def test_two_statements_in_each_side(self):
        statements = [
            ("cut", "whole", 1, (1, 2), "a", "b"),
            ask([("give", "a", 1), ("give", "b", 2)], [("drop", "b"), ("drop", "a")], "a", "b")]
        self.assertEqual(Scheme(2, statements).text(), (
            "players 2; cut whole by 1 at 1/2 into a, b; ask 1 if a is 1/2 of b; give a to 1; give b to 2; "
            "else; drop b; drop a; end"))

    def test_twenty_asks_inside_each_other(self):
        head, tail = "; ask 1 if whole is 1/2 of whole", "; else; end"
        yes, no = Scheme(1, nested_asks(20, "yes")), Scheme(1, nested_asks(20, "no"))
        self.assertEqual(yes.text(), "players 1" + head * 20 + tail * 20)
        self.assertEqual(no.text(), "players 1" + (head + "; else") * 20 + "; end" * 20)
        self.assertEqual([Scheme.read(yes.text()), Scheme.read(no.text())], [yes, no])

    def test_read_what_is_written(self):
        schemes = 0
        for players, statements in random_cases(500, seed=11):
            made = self.outcome(lambda: Scheme(players, statements))
            if isinstance(made, Scheme):
                schemes += 1
                self.assertIsNone(first_wrong_line(made.text()))
                read = Scheme.read(made.text())
                self.assertEqual([read, read.players, read.statements()], [made, players, statements])
        self.assertGreater(schemes, 250)


class ReadTest(TextsTest):
    def test_example(self):
        self.check("players 2; give whole to 3", 1)

    def test_by_name(self):
        self.assertEqual(Scheme.read(text=HALF_TEXT).statements(), [
            ("cut", "whole", 1, (1, 2), "a", "b"), ("pick", 2, "greatest", ("a", "b"), ("x", "y")),
            ("give", "x", 2), ("give", "y", 1)])

    def test_names_that_are_words(self):
        text = ("players 2; cut whole by 1 at 1/2 into by, at; cut by by 2 at 1 into into, by; "
                "pick least of by, into by 1 as of, by; trim of to by by 1 into as, to; join to, as as as; "
                "ask 1 if as is 1 of if.1; else; end; give at to 2; drop by; give as to 1")
        with self.assertRaises(UnknownPiece) as caught:
            Scheme.read(text)
        self.assertEqual(caught.exception.name, "if.1")
        scheme = Scheme.read(text.replace("if.1", "as"))
        self.assertEqual(scheme.statements()[1:6], [
            ("cut", "by", 2, (1, 1), "into", "by"), ("pick", 1, "least", ("by", "into"), ("of", "by")),
            ("trim", "of", "by", 1, "as", "to"), ("join", ("to", "as"), "as"),
            ("ask", 1, "as", (1, 1), "as", (), ())])
        self.assertEqual(len(Scheme.read("players 1; cut whole by 1 at 0 into else, end; drop else; drop end")), 1)

    def test_first_lines(self):
        wrong = ["", " ", "players", "players ", "players 0", "players 6", "players 9", "players 10", "players 02",
                 "players -1", "players +1", "players 1 ", " players 1", "players  1", "Players 1", "player 1",
                 "players 1;", "players one", "players 1.", "players 1\n", "\n", ";", "; ",
                 "players 1,", "players 1/1", "players \u0662", "players \u00b2", "players " + "1" * 5000, "else",
                 "drop whole", "players 1;drop whole", "players 1 ; drop whole", "1", "players 1\n; drop whole"]
        for text in wrong:
            self.check(text, 0)
            self.check(f"{text}; drop a; nothing", 0)

    def test_empty_lines(self):
        self.check("players 1; ", 1)
        self.check("players 1; ; drop whole", 1)
        self.check("players 1; drop whole; ", 2)
        self.check("players 1; drop whole;", 1)
        self.check("players 1;  drop whole", 1)
        self.check("players 1; drop whole;drop whole", 1)
        self.check("players 1; drop whole\n", 1)
        self.check("players 1; drop whole; players 1", 2)

    def test_wrong_lines(self):
        wrong = [
            "cut whole by 1 at 1/2 into a", "cut whole by 1 at 1/2 into a,b", "cut whole by 1 at 1/2 into a, a",
            "cut whole by 1 at 1/2 into a, b, c", "cut whole by 1 at 1/2 into a b", "cut whole by 1 at 1/2 into a , b",
            "cut whole by 1 at 1/2 into a,  b", "cut whole by 1 at 1/2 into a, b,", "cut whole by 1 at 1/2 into a, b ",
            "cut whole by 1 at 1/2 into , a, b", "cut whole by 1 at 1/2 a, b", "cut whole by 1 to 1/2 into a, b",
            "cut whole at 1/2 by 1 into a, b", "cut by 1 at 1/2 into a, b", "cut whole by 3 at 1/2 into a, b",
            "cut whole by 0 at 1/2 into a, b", "cut whole by 01 at 1/2 into a, b", "cut whole by a at 1/2 into a, b",
            "cut whole by 1 at 2/4 into a, b", "cut whole by 1 at 1/1 into a, b", "cut whole by 1 at 3/2 into a, b",
            "cut whole by 1 at -1/2 into a, b", "cut whole by 1 at 1/100 into a, b", "cut whole by 1 at 2 into a, b",
            "cut whole by 1 at 0/1 into a, b", "cut whole by 1 at 1/0 into a, b", "cut whole by 1 at 01/2 into a, b",
            "cut whole by 1 at 1 / 2 into a, b", "cut whole by 1 at 0.5 into a, b", "cut whole by 1 at  into a, b",
            "cut whole  by 1 at 1/2 into a, b", " cut whole by 1 at 1/2 into a, b", "Cut whole by 1 at 1/2 into a, b",
            "cut Whole by 1 at 1/2 into a, b", "cut a, c by 1 at 1/2 into a, b", "cut whole by 1, 2 at 1/2 into a, b",
            "cut whole by 1 at 1/2 into a.0, b", "cut whole by 1 at 1/2 into a, b.1.1.1.1.1.1.1",
            "cut whole by 1 at 1/2 into abcdefghi, b", "cut", "cut whole", "cuts whole by 1 at 1/2 into a, b",
            "trim a to a by 1 into b, c", "trim a to b by 1 into c, c", "trim a to b by 9 into c, d",
            "trim a to b by 1 into c", "trim a by 1 to b into c, d", "trim a like b by 1 into c, d",
            "trim a to b by 1 into c, d, e", "trim a to b into c, d",
            "pick most of a, b by 1 as c, d", "pick greatest of a by 1 as c", "pick greatest of a, b by 1 as c",
            "pick greatest of a, b by 1 as c, d, e", "pick least of a, a by 1 as c, d", "pick least a, b by 1 as c, d",
            "pick least of a, b by 1 as c, c", "pick least of a, b, c, d, e by 1 as a, b, c, d, e",
            "pick least of a, b by 3 as c, d", "pick least of a,b by 1 as c, d", "pick least of a, b by 1 as c,d",
            "pick of a, b by 1 as c, d", "pick least of a, b by 1 into c, d", "pick least of a, b by 1",
            "join a as b", "join a, a as b", "join a, b, c, d, e as f", "join a, b into c", "join a, b as c, d",
            "join a, b", "join a b as c", "join as c", "join a, b as", "join a, b as ", "join , as a",
            "give a", "give a to", "give a to ", "give a to 0", "give a to 6", "give a to b", "give a to 1 ",
            "give a to 1, 2", "give a, b to 1", "give a by 1", "give 1 to a", "give a to 1 to 1", "give a to -1",
            "give a to \u0661", "give a to " + "1" * 5000, "drop", "drop ", "drop a b", "drop a, b", "drop 1",
            "drop  a",
            "drop a ", "Drop a", "drop a,", "drop a.", "drop a.01", "drop a.100", "drop \u00e9", "drop a\n", "dropa",
            "ask 1 if a is 1/2 of", "ask 1 if a is 2/4 of b", "ask 1 if a is 100 of b", "ask 1 if a is 1/100 of b",
            "ask 1 if a is -1 of b", "ask 3 if a is 1 of b", "ask 0 if a is 1 of b", "ask 1 if a as 1 of b",
            "ask 1 if a is 1 b", "ask if a is 1 of b", "ask 1 if a is 1/1 of b", "ask 1 whether a is 1 of b",
            "ask 1 if a is 1 of b, c", "ask 1 if a, b is 1 of c", "else", "end", "Else", "else ",
            "use half for on a", "use half for 1", "use half for 3 on a", "use half for 0 on a",
            "use half for 1, 1 on a",
            "use half for 1,2 on a", "use Half for 1 on a", "use half.1 for 1 on a", "use abcdefghi for 1 on a",
            "use half for 1 on A", "use half on a for 1", "use half for a on a", "use half for 1, 2, 1 on a",
            "use half for 1, 2, 3 on a", "use for 1 on a", "use half for 01 on a", "use  for 1 on a", "yes", "no",
            "halve a", "", "statement", "players 2", "a", ";", ";;", "~",
            "cut whole by 1 at 1/2 into a, b;"]
        for line in wrong:
            self.assertFalse(can_stand(line, 2), line)
            self.check(f"players 2; {line}", 1)
            self.check(f"players 2; drop whole; drop whole; {line}; nothing", 3)
            if line != "else":
                self.check(f"players 2; ask 1 if a is 1 of b; {line}; nothing", 2)

    def test_else_and_end(self):
        start = "players 1; ask 1 if whole is 1 of whole"
        for text, place in [
                ("players 1; else", 1), ("players 1; end", 1), (f"{start}; end", 2), (f"{start}; else; else", 3),
                (f"{start}; else; end; end", 4), (f"{start}; else; end; else", 4),
                (f"{start}; drop whole; end", 3), (f"{start}; else; drop whole; else", 4),
                (f"{start}{start[9:]}; end", 3), (f"{start}{start[9:]}; else; else", 4),
                (f"{start}; else{start[9:]}; else; end; else", 6)]:
            self.check(text, place)

    def test_too_early_ends(self):
        start = "players 1; ask 1 if whole is 1 of whole"
        inner = start[9:]
        for text, place in [
                (start, 2), (f"{start}; else", 3), (f"{start}; drop whole", 3), (f"{start}; else; drop whole", 4),
                (f"{start}{inner}; else; end", 5), (f"{start}; else{inner}; else; end", 6), (start + inner * 24, 26)]:
            self.check(text, place)
        self.check("players 1" + inner * 300, 301)

    def test_each_line_changed(self):
        errors = 0
        for text in (HALF_TEXT, ASK_TEXT, ALL_KINDS_TEXT):
            lines = text.split("; ")
            changed = []
            for at in range(len(lines)):
                before, line, behind = lines[:at], lines[at], lines[at + 1:]
                changed += [[*before, *behind], [*before, line, line, *behind], before, [*before, line]]
                changed += [[*before, other, *behind] for other in set(lines)]
                changed += [[*before, line[:length], *behind] for length in range(len(line))]
                changed += [[*before, line[length:], *behind] for length in range(1, len(line))]
                for letter in " ,;/.019ax\n":
                    changed += [[*before, line[:k] + letter + line[k:], *behind] for k in range(len(line) + 1)]
                    changed += [[*before, line[:k] + letter + line[k + 1:], *behind] for k in range(len(line))]
            for rows in changed:
                errors += self.compare("; ".join(rows))
            for length in range(len(text)):
                errors += self.compare(text[:length])
        self.assertGreater(errors, 1000)

    def compare(self, text):
        """Read a text and compare the place of the error; returns 1 if there is one."""
        place = first_wrong_line(text)
        if place is None:
            outcome = self.outcome(lambda: Scheme.read(text))
            self.assertNotEqual(getattr(outcome, "word", None), "parseerror", text)
            if isinstance(outcome, Scheme):
                self.assertEqual(outcome.text(), text)
            return 0
        self.check(text, place)
        return 1

    def test_parse_errors_before_all_others(self):
        self.check("players 2; give whole to 1; give whole to 1; give whole to 3", 3)
        self.check("players 6; give whole to 1", 0)
        self.check("players 2" + "; drop whole" * 61 + "; drop", 62)
        self.check("players 2; use half for 1 on whole; drop", 2)
        self.check("players 1" + "; ask 1 if whole is 1 of whole; else; end" * 8 + "; end", 25)

    def test_errors_of_schemes(self):
        cuts = "; cut whole by 1 at 1/2 into whole, a; drop a"
        asks = "; ask 1 if whole is 1 of whole; else; end"
        for text, error, field, value in [
                ("players 2" + "; drop whole" * 61, TooLarge, "limit", 60),
                ("players 2" + "; drop whole" * 60, UnknownPiece, "name", "whole"),
                ("players 2" + asks * 8, TooLarge, "limit", 200),
                ("players 2" + cuts * 20, TooLarge, "limit", 40),
                ("players 2" + cuts * 20 + asks * 8, TooLarge, "limit", 200),
                ("players 1; drop whole.1", UnknownPiece, "name", "whole.1"),
                ("players 1; cut whole by 1 at 1 into a, b; cut a by 1 at 1 into c, b", DuplicatePiece, "name", "b"),
                ("players 1; drop whole; give whole to 1", UnknownPiece, "name", "whole")]:
            with self.assertRaises(error, msg=text) as caught:
                Scheme.read(text)
            self.assertEqual(getattr(caught.exception, field), value)
        self.assertEqual(len(Scheme.read("players 2" + asks * 7)), 128)
        self.assertEqual(len(Scheme.read("players 2" + cuts * 19)), 1)

    def test_far_too_many_asks_inside_each_other(self):
        text = "players 1" + "; ask 1 if a is 1 of b" * 300 + "; else; end" * 300
        with self.assertRaises(TooLarge) as caught:
            Scheme.read(text)
        self.assertEqual(caught.exception.limit, 60)

    def test_uses_cannot_stand(self):
        cut = "; cut whole by 1 at 1/2 into a, b"
        for text, place in [
                ("players 2; use half for 1 on whole", 0), (f"players 2{cut}; use half for 2, 1 on a", 1),
                (f"players 3{cut}; ask 1 if a is 1 of b; drop a; else; use whole for 3, 1 on a.1; end", 3),
                ("players 5; drop a; drop b; use use for 5, 4, 3, 2, 1 on on", 2),
                ("players 2" + "; drop whole" * 59 + "; use half for 1 on whole", 59)]:
            with self.assertRaises(InvalidStatement, msg=text) as caught:
                Scheme.read(text)
            self.assertEqual(caught.exception.place, place)
        with self.assertRaises(TooLarge) as caught:
            Scheme.read("players 2" + "; drop whole" * 60 + "; use half for 1 on whole")
        self.assertEqual(caught.exception.limit, 60)

    def test_same_as_for_statements(self):
        """Reading a text gives what Scheme gives for its statements, the errors too."""
        words = set()
        for players, statements in random_cases(500, seed=3):
            made = self.outcome(lambda: Scheme(players, statements))
            read = self.outcome(lambda: Scheme.read(self.text_of(players, statements)))
            self.assertEqual(read, made)
            words.add("" if isinstance(made, Scheme) else made["word"])
        self.assertEqual(words, {"", "toolarge", "unknownpiece", "duplicatepiece"})

    def text_of(self, players, statements):
        return "; ".join([f"players {players}", *[line for row in statements for line in self.lines_of(row)]])

    def lines_of(self, row):
        word = row[0]
        if word == "cut":
            return [f"cut {row[1]} by {row[2]} at {self.share(row[3])} into {row[4]}, {row[5]}"]
        if word == "trim":
            return [f"trim {row[1]} to {row[2]} by {row[3]} into {row[4]}, {row[5]}"]
        if word == "pick":
            return [f"pick {row[2]} of {', '.join(row[3])} by {row[1]} as {', '.join(row[4])}"]
        if word == "join":
            return [f"join {', '.join(row[1])} as {row[2]}"]
        if word in ("give", "drop"):
            return [f"give {row[1]} to {row[2]}" if word == "give" else f"drop {row[1]}"]
        sides = [[line for inner in side for line in self.lines_of(inner)] for side in row[5:]]
        return [f"ask {row[1]} if {row[2]} is {self.share(row[3])} of {row[4]}", *sides[0], "else", *sides[1], "end"]

    def share(self, part):
        return str(part[0]) if part[1] == 1 else f"{part[0]}/{part[1]}"


if __name__ == "__main__":
    unittest.main()
