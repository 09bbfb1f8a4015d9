"""Stocks: the outlines of a shelf at one time, by name, with the schemes to which they expand."""

from graincourse.errors import Cycle, InUse, InvalidName, TooLarge, UnknownName
from graincourse.outlines import check_outline, outlines_used, scheme_of
from graincourse.statements import is_plain

MOST_OUTLINES = 8


class Stock:
    """Outlines and their schemes, in the order in which each name stands behind those that it uses.

    A stock stays as it is: a command leads to another one.
    """

    def __init__(self, outlines):
        self.outlines = outlines
        self.schemes = {}
        for name in ordered_names(outlines):
            self.schemes[name] = scheme_of(name, outlines[name], self.schemes)


def ordered_names(outlines):
    """Return the list of the names of outlines, each behind those that it uses, the least possible one next."""
    listed = []
    waiting = sorted(outlines)
    while waiting:
        ready = [name for name in waiting if all([used in listed for used in outlines_used(outlines[name])])]
        listed.append(ready[0])
        waiting = [name for name in waiting if name != ready[0]]
    return listed


def names_behind(outlines, name):
    """Return the list of the names of outlines that an outline uses, directly or not."""
    found = outlines_used(outlines[name])
    at = 0
    while at < len(found):
        found.extend([used for used in outlines_used(outlines[found[at]]) if used not in found])
        at += 1
    return found


def users_of(stock, name):
    """Return the ascending list of the names of outlines that use an outline directly."""
    if name not in stock.outlines:
        raise UnknownName(name)
    return [user for user in sorted(stock.outlines) if name in outlines_used(stock.outlines[user])]


def with_outline(stock, name, players, statements):
    """Return the stock in which a name has this outline."""
    if not is_plain(name):
        raise InvalidName(name)
    check_outline(players, statements)
    outline = (players, tuple(statements))
    outlines = {**stock.outlines, name: outline}
    for used in outlines_used(outline):
        if used not in outlines:
            raise UnknownName(used)
    if name in names_behind(outlines, name):
        raise Cycle(name)
    if len(outlines) > MOST_OUTLINES:
        raise TooLarge(MOST_OUTLINES)
    return Stock(outlines)


def without_outline(stock, name):
    """Return the stock without an outline."""
    users = users_of(stock, name)
    if users:
        raise InUse(users[0])
    return Stock({other: outline for other, outline in stock.outlines.items() if other != name})
