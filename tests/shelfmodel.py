"""What the document says of shelves, written down once more, with all that is known kept in plain dicts.

Which outlines have their form is not looked at here; whether statements make a scheme is asked of the program.
"""

from graincourse.schemes import Scheme

# Where the names of pieces and the players stand; an index of a tuple of names counts as well.
PIECES = {"cut": (1, 4, 5), "trim": (1, 2, 4, 5), "pick": (3, 4), "join": (1, 2), "give": (1,), "drop": (1,),
          "ask": (2, 4)}
PLAYERS = {"cut": 2, "trim": 3, "pick": 1, "give": 2, "ask": 1}


class Refused(Exception):
    """The word and the field of the error of a command."""


def uses_in(statements):
    found = []
    for statement in statements:
        if statement[0] == "use":
            found.append(statement)
        elif statement[0] == "ask":
            found += uses_in(statement[5]) + uses_in(statement[6])
    return found


def renamed(name, piece, number):
    if isinstance(name, tuple):
        return tuple(renamed(each, piece, number) for each in name)
    return piece if name == "whole" else name + "." + str(number)


def moved(statement, players, piece, number):
    items = list(statement)
    for at in PIECES[items[0]]:
        items[at] = renamed(items[at], piece, number)
    if items[0] in PLAYERS:
        items[PLAYERS[items[0]]] = players[items[PLAYERS[items[0]]] - 1]
    if items[0] == "ask":
        for at in (5, 6):
            items[at] = tuple(moved(inner, players, piece, number) for inner in items[at])
    return tuple(items)


class ShelfModel:
    def __init__(self):
        self.outlines = {}

    def ordered(self):
        listed = []
        while len(listed) < len(self.outlines):
            listed.append(min(name for name in self.outlines if name not in listed
                              and all(use[1] in listed for use in uses_in(self.outlines[name][1]))))
        return listed

    def expanded(self, name):
        """The statements of a scheme, with the uses counted while they are met."""
        counted = [0]

        def expand(statements):
            listed = []
            for statement in statements:
                if statement[0] == "ask":
                    yes = tuple(expand(statement[5]))
                    listed.append((*statement[:5], yes, tuple(expand(statement[6]))))
                elif statement[0] == "use":
                    _, used, players, piece = statement
                    counted[0] += 1
                    if len(players) != self.outlines[used][0]:
                        raise Refused("unfit", None)
                    listed += [moved(inner, players, piece, counted[0]) for inner in self.expanded(used)]
                else:
                    listed.append(statement)
            return listed

        return expand(self.outlines[name][1])

    def fits(self, name):
        try:
            Scheme(self.outlines[name][0], self.expanded(name))
        except (Refused, ValueError, LookupError):
            return False
        return True

    def reach(self, name, seen):
        for use in uses_in(self.outlines.get(name, (0, ()))[1]):
            if use[1] not in seen:
                seen.add(use[1])
                self.reach(use[1], seen)
        return seen

    def define(self, name, players, statements):
        before = self.outlines
        self.outlines = {**before, name: (players, tuple(statements))}
        try:
            missing = [use[1] for use in uses_in(statements) if use[1] not in self.outlines]
            if missing:
                raise Refused("unknownname", min(missing))
            if name in self.reach(name, set()):
                raise Refused("cycle", name)
            if len(self.outlines) > 8:
                raise Refused("toolarge", 8)
            for other in self.ordered():
                if not self.fits(other):
                    raise Refused("unfit", other)
        except Refused:
            self.outlines = before
            raise

    def users(self, name):
        return sorted(other for other in self.outlines if name in {use[1] for use in uses_in(self.outlines[other][1])})

    def drop(self, name):
        if name not in self.outlines:
            raise Refused("unknownname", name)
        if self.users(name):
            raise Refused("inuse", self.users(name)[0])
        self.outlines = {other: outline for other, outline in self.outlines.items() if other != name}
