"""What the document says of runs, written down once more, piece by piece, with fractions of Python.

All answers are carried out from the beginning, each time that something is asked.
"""

from fractions import Fraction


class Wrong(Exception):
    """An answer that does not fit."""


class Carried:
    """What has become of the stuff behind some answers; it stops in front of the first missing one."""

    def __init__(self, players, statements, worths, answers):
        self.worths = [[Fraction(*worth) for worth in row] for row in worths]
        self.pieces = {"whole": [Fraction(1)] * len(worths)}
        self.got = {player: [] for player in range(1, players + 1)}
        self.told, self.broken, self.made = [], set(), [self.pieces["whole"]]
        self.awaited = None
        self.answers = list(answers)
        self.ended = self.follow(statements)

    def follow(self, statements):
        for statement in statements:
            self.statement = statement
            if not getattr(self, statement[0])(*statement[1:]):
                return False
        return True

    def worth(self, player, amounts):
        return sum((amount * row[player - 1] for amount, row in zip(amounts, self.worths)), Fraction(0))

    def next(self, word, player):
        if self.answers:
            return self.answers.pop(0)
        self.awaited = (word, player)
        return None

    def judge(self, player, kept):
        if not kept:
            self.broken.add(player)

    def amounts(self, value, have):
        if not isinstance(value, tuple) or len(value) != len(have):
            raise Wrong
        for above, below in value:
            if below < 1 or Fraction(above, below).denominator != below:
                raise Wrong
        first = [Fraction(*part) for part in value]
        if any(not 0 <= part <= most for part, most in zip(first, have)):
            raise Wrong
        return first

    def part(self, have, first, names):
        parts = [first, [whole - part for whole, part in zip(have, first)]]
        self.made += parts
        self.pieces.update(zip(names, parts))

    def cut(self, piece, player, share, *names):
        value = self.next("cut", player)
        if value is None:
            return False
        have = self.pieces[piece]
        first = self.amounts(value, have)
        del self.pieces[piece]
        self.part(have, first, names)
        self.judge(player, self.worth(player, first) == Fraction(*share) * self.worth(player, have))
        return True

    def trim(self, piece, like, player, *names):
        value = self.next("trim", player)
        if value is None:
            return False
        have, other = self.pieces[piece], self.worth(player, self.pieces[like])
        first = list(have) if value == "short" else self.amounts(value, have)
        del self.pieces[piece]
        self.part(have, first, names)
        self.told.append("short" if value == "short" else "long")
        mine = self.worth(player, first)
        self.judge(player, mine <= other if value == "short" else mine == other)
        return True

    def pick(self, player, which, pieces, names):
        value = self.next("pick", player)
        if value is None:
            return False
        if not isinstance(value, int) or not 0 <= value < len(pieces):
            raise Wrong
        self.told.append(value)
        amounts = [self.pieces.pop(piece) for piece in pieces]
        picked = amounts.pop(value)
        self.pieces.update(zip(names, [picked, *amounts]))
        sign = 1 if which == "greatest" else -1
        mine = self.worth(player, picked)
        self.judge(player, all(sign * (mine - self.worth(player, other)) >= 0 for other in amounts))
        return True

    def ask(self, player, piece, share, like, yes, no):
        value = self.next("ask", player)
        if value is None:
            return False
        if value not in ("yes", "no"):
            raise Wrong
        self.told.append(value)
        lead = self.worth(player, self.pieces[piece]) - Fraction(*share) * self.worth(player, self.pieces[like])
        self.judge(player, lead >= 0 if value == "yes" else lead <= 0)
        return self.follow(yes if value == "yes" else no)

    def join(self, pieces, name):
        amounts = [self.pieces.pop(piece) for piece in pieces]
        self.pieces[name] = [sum(column) for column in zip(*amounts)]
        self.made.append(self.pieces[name])
        return True

    def give(self, piece, player):
        self.got[player].append(self.pieces.pop(piece))
        return True

    def drop(self, piece):
        del self.pieces[piece]
        return True

    def share(self, player):
        return sum((self.worth(player, amounts) for amounts in self.got[player]), Fraction(0))

    def keeping(self):
        """An answer that breaks no rule."""
        word, *rest = self.statement
        if word == "cut":
            return scaled(self.pieces[rest[0]], Fraction(*rest[2]))
        if word == "trim":
            have, like = self.worth(rest[2], self.pieces[rest[0]]), self.worth(rest[2], self.pieces[rest[1]])
            return "short" if have <= like else scaled(self.pieces[rest[0]], like / have)
        player = rest[0]
        if word == "pick":
            worths = [self.worth(player, self.pieces[piece]) for piece in rest[2]]
            return worths.index(max(worths) if rest[1] == "greatest" else min(worths))
        least = Fraction(*rest[2]) * self.worth(player, self.pieces[rest[3]])
        return "yes" if self.worth(player, self.pieces[rest[1]]) >= least else "no"

    def fitting(self, rng):
        """An answer that fits, right or wrong."""
        word, *rest = self.statement
        if word == "pick":
            return rng.randrange(len(rest[2]))
        if word == "ask":
            return rng.choice(["yes", "no"])
        if word == "trim" and rng.random() < 0.5:
            return "short"
        have = self.pieces[rest[0]]
        return tuple((part * rng.choice([0, 1, Fraction(1, 2), Fraction(1, 3)])).as_integer_ratio() for part in have)

    def unfitting(self, rng):
        """An answer that does not fit."""
        word, *rest = self.statement
        if word == "pick":
            return rng.choice([-1, len(rest[2]), 10 ** 29, "0", "yes", "short", (), ((1, 1),)])
        if word == "ask":
            return rng.choice(["Yes", "", "yes ", "short", 0, 1, (), ((1, 1),), "long"])
        have = self.pieces[rest[0]]
        value = [part.as_integer_ratio() for part in have]
        at = rng.randrange(len(value))
        above, below = value[at]
        bent = list(value)
        bent[at] = rng.choice([(-1, 2), (above + 1, below), (2 * above, 2 * below), (0, 0), (1, 0), (-above, -below),
                               (0, 2), (3, 2), (1, -2), (below * 10 ** 20 + 1, below * 10 ** 20)])
        other = "short" if word == "cut" else "long"
        return rng.choice([tuple(value[1:]), (*value, (0, 1)), (), other, 0, 1, "yes", *[tuple(bent)] * 8])


def scaled(have, share):
    return tuple((part * share).as_integer_ratio() for part in have)
