"""Schemes that several tests use, and schemes made up at random from a seed."""

import random

from graincourse.schemes import Scheme

HALF_TEXT = ("players 2; cut whole by 1 at 1/2 into a, b; pick greatest of a, b by 2 as x, y; "
             "give x to 2; give y to 1")
ASK_TEXT = ("players 2; cut whole by 2 at 1/3 into p, q; ask 1 if p is 1 of q; trim p to q by 2 into a, b; "
            "give a to 1; give b to 2; give q to 2; else; give q to 1; give p to 2; end")

# All kinds of statements, with more than one way to answer each.
ALL_KINDS = [
    ("cut", "whole", 1, (1, 3), "a", "b"),
    ("trim", "b", "a", 2, "c", "d"),
    ("pick", 3, "least", ("c", "a"), ("x", "y")),
    ("ask", 1, "x", (2, 3), "d", (
        ("join", ("d", "y"), "e"),
        ("give", "e", 3),
    ), (
        ("drop", "y"),
        ("ask", 2, "d", (0, 1), "d", (("give", "d", 1),), ()),
    )),
    ("give", "x", 2),
]
ALL_KINDS_TEXT = ("players 3; cut whole by 1 at 1/3 into a, b; trim b to a by 2 into c, d; "
                  "pick least of c, a by 3 as x, y; ask 1 if x is 2/3 of d; join d, y as e; give e to 3; else; "
                  "drop y; ask 2 if d is 0 of d; give d to 1; else; end; end; give x to 2")

SHARES = [(0, 1), (1, 1), (1, 2), (2, 3), (1, 99), (97, 99)]
ASK_SHARES = [*SHARES, (3, 2), (99, 1), (99, 98)]
NAMES = ["a", "b", "c", "whole", "abcdefgh", "a.1", "b.99.1", "a.1.2.3.4.5.6", "by", "to", "into", "as", "end"]


def ask(yes, no, piece="whole", like="whole"):
    return ("ask", 1, piece, (1, 2), like, tuple(yes), tuple(no))


def nested_asks(depth, side):
    """Asks inside each other, with nothing else in them."""
    inside = ()
    for _ in range(depth):
        inside = (ask(inside, ()) if side == "yes" else ask((), inside),)
    return list(inside)


def random_statements(rng, players, present, many, depth=0):
    """Up to so many statements that fit the names that are present, which are changed."""
    statements = []
    for _ in range(many):
        if not present:
            break
        statements.append(random_statement(rng, players, present, depth))
    return statements


def random_statement(rng, players, present, depth):
    if rng.random() < 0.02:
        return ("join", tuple(rng.sample(NAMES, 2)), rng.choice(NAMES))
    words = ["cut"] * (8 - min(len(present), 6)) + ["ask"] * (2 - depth)
    if len(present) > 1:
        words += ["trim", "pick", "join", "give", "drop"]
    word = rng.choice(words)
    player = rng.randint(1, players)
    if word == "ask":
        one, other = rng.choice(present), rng.choice(present)
        left, right = list(present), list(present)
        yes = random_statements(rng, players, left, rng.randint(0, 2), depth + 1)
        no = random_statements(rng, players, right, rng.randint(0, 2), depth + 1)
        present[:] = [name for name in left if name in right]
        return ("ask", player, one, rng.choice(ASK_SHARES), other, tuple(yes), tuple(no))
    if word in ("pick", "join"):
        used = rng.sample(present, rng.randint(2, min(4, len(present))))
    elif word == "trim":
        used = rng.sample(present, 2)
    else:
        used = [rng.choice(present)]
    freed = used[:1] if word == "trim" else used
    present[:] = [name for name in present if name not in freed]
    # A name that is present on some branches only is not given anew.
    news = rng.sample([name for name in NAMES if name not in present], 4)
    news = news[:{"cut": 2, "trim": 2, "pick": len(used), "join": 1}.get(word, 0)]
    present.extend(news)
    if word == "cut":
        return ("cut", used[0], player, rng.choice(SHARES), *news)
    if word == "trim":
        return ("trim", *used, player, *news)
    if word == "pick":
        return ("pick", player, rng.choice(["greatest", "least"]), tuple(used), tuple(news))
    if word == "join":
        return ("join", tuple(used), news[0])
    return ("give", used[0], player) if word == "give" else ("drop", used[0])


def random_cases(many, seed):
    """Pairs of a number of players and a list of statements, some of which do not make a scheme."""
    rng = random.Random(seed)
    cases = []
    for _ in range(many):
        players = rng.randint(1, 5)
        cases.append((players, random_statements(rng, players, ["whole"], rng.randint(0, 12))))
    return cases


def valid_schemes(many, seed, most):
    """The schemes among random cases that have no more than so many branches."""
    schemes = []
    for players, statements in random_cases(many, seed):
        try:
            schemes.append(Scheme(players, statements))
        except (ValueError, LookupError):
            continue
    return [scheme for scheme in schemes if len(scheme) <= most]


def pick(player, pieces, which="greatest"):
    """A pick whose new names are the old ones, the picked piece first."""
    return ("pick", player, which, tuple(pieces), tuple(pieces))


# Two players cut and pick, each parts the own half in three, and the third player picks from both: a third for all.
LONE_TEXT = ("players 3; cut whole by 1 at 1/2 into a, b; pick greatest of a, b by 2 as b, a; "
             "cut a by 1 at 1/3 into c, d; cut d by 1 at 1/2 into d, e; "
             "cut b by 2 at 1/3 into f, g; cut g by 2 at 1/2 into g, h; "
             "pick greatest of c, d, e by 3 as x, d, e; pick greatest of f, g, h by 3 as y, g, h; "
             "join x, y as z; join d, e as a; join g, h as b; give z to 3; give a to 1; give b to 2")

# As much of a division without envy between three players as leaves the trimmings to nobody.
NO_ENVY = [
    ("cut", "whole", 1, (1, 3), "a", "b"),
    ("cut", "b", 1, (1, 2), "b", "c"),
    ("pick", 2, "greatest", ("a", "b", "c"), ("x", "b", "c")),
    ("pick", 2, "greatest", ("b", "c"), ("y", "z")),
    ("trim", "x", "y", 2, "x", "t"),
    ("drop", "t"),
    ("ask", 3, "x", (1, 1), "y", (
        ("ask", 3, "x", (1, 1), "z", (
            ("give", "x", 3), pick(2, ("y", "z")), ("give", "y", 2), ("give", "z", 1),
        ), (
            ("give", "z", 3), ("give", "x", 2), ("give", "y", 1),
        )),
    ), (
        pick(3, ("y", "z")), ("give", "y", 3), ("give", "x", 2), ("give", "z", 1),
    )),
]

# Four pieces for four players, who pick one after the other.
FOUR_TEXT = ("players 4; cut whole by 1 at 1/2 into a, b; cut a by 1 at 1/2 into a, c; cut b by 1 at 1/2 into b, d; "
             "pick greatest of a, b, c, d by 2 as x, a, b, c; give x to 2; "
             "pick greatest of a, b, c by 3 as x, a, b; give x to 3; pick greatest of a, b by 4 as x, a; "
             "give x to 4; give a to 1")

# 200 branches for five players, with each kind of statement that has more than one answer but the trim.
MANY = [
    ("cut", "whole", 1, (1, 2), "a", "b"),
    ("cut", "a", 2, (1, 3), "a", "c"),
    ("cut", "b", 3, (2, 5), "b", "d"),
    ("ask", 4, "a", (1, 2), "b",
        (pick(5, "abcd"), pick(4, "abcd")), (pick(3, "abc", "least"), pick(5, "bcd"))),
    pick(1, "ab"),
    pick(2, "bc", "least"),
    pick(4, "cd"),
    ("give", "a", 1),
    ("cut", "b", 5, (1, 3), "b", "e"),
    ("give", "b", 2),
    ("give", "c", 4),
    ("join", ("d", "e"), "d"),
    ("cut", "d", 2, (1, 2), "e", "f"),
    ("give", "e", 3),
    ("give", "f", 5),
]
