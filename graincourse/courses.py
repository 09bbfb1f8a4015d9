"""Courses: how far a run has come, and how the answers lead it on."""

from graincourse.branches import compared, own_entries
from graincourse.ratios import ONE, ZERO, is_fraction, is_number, negative, order, plus, times, total
from graincourse.walks import Walk

SILENT = ("join", "give", "drop")


class Course:
    """A walk, the amounts of each sort in each of its pieces, and who has broken a rule on it.

    A course stays as it is: an answer leads to another one.
    """

    def __init__(self, walk, amounts, breakers):
        self.walk = walk
        self.amounts = tuple(amounts)
        self.breakers = tuple(breakers)

    def statement(self):
        """Return the statement that awaits an answer, or None at the end."""
        return self.walk.waiting[-1] if self.walk.waiting else None


def go_silently(walk, amounts):
    """Carry out statements up to the next one that awaits an answer, and add the amounts of new pieces."""
    while walk.waiting and walk.waiting[-1][0] in SILENT:
        walk.go_on(None)
        step = walk.steps[-1]
        if step[0] == "join":
            joined = [amounts[piece] for piece in step[1]]
            amounts.append(tuple([total(column) for column in zip(*joined)]))


def first_course(statements, many):
    """Return the course without answers, on stuff of so many sorts."""
    walk = Walk(statements)
    amounts = [(ONE,) * many]
    go_silently(walk, amounts)
    return Course(walk, amounts, ())


def are_amounts(value, have):
    """Return whether a value is a tuple of amounts, each at most that of what there is."""
    if not isinstance(value, tuple) or len(value) != len(have):
        return False
    for amount, most in zip(value, have):
        if not isinstance(amount, tuple) or not is_fraction(amount):
            return False
        if order(amount, ZERO) < 0 or order(amount, most) > 0:
            return False
    return True


def fits_answer(course, value):
    """Return whether a value is an answer to the statement that awaits one."""
    statement = course.statement()
    word = statement[0]
    if word == "pick":
        return is_number(value) and 0 <= value < len(statement[3])
    if word == "ask":
        return value in ("yes", "no")
    if word == "trim" and value == "short":
        return True
    return are_amounts(value, course.amounts[course.walk.present[statement[1]]])


def told_answer(word, value):
    """Return what an answer adds to those that a branch tells, None for a cut."""
    if word == "cut":
        return None
    if word == "trim":
        return "short" if value == "short" else "long"
    return value


def parts_of(have, value):
    """Return the amounts of the two parts that a cut or trim makes."""
    if value == "short":
        return [have, (ZERO,) * len(have)]
    return [value, tuple([plus(whole, negative(part)) for whole, part in zip(have, value)])]


def worth_of(amounts, worths, player):
    """Return what some amounts are worth to a player, under the worths of the sorts."""
    return total([times(amount, row[player - 1]) for amount, row in zip(amounts, worths)])


def sum_of(entries, amounts, worths, player):
    """Return the sum of entries (piece, number) times the worths of the pieces to a player."""
    return total([times((number, 1), worth_of(amounts[piece], worths, player)) for piece, number in entries])


def breaks_rule(step, amounts, worths, player):
    """Return whether a step of a player is not what the player has to do."""
    if order(sum_of(own_entries(step, player), amounts, worths, player), ZERO) != 0:
        return True
    return any([order(sum_of(entries, amounts, worths, player), ZERO) < 0 for entries in compared(step, player)])


def next_course(course, value, worths):
    """Return the course to which an answer that fits leads."""
    walk = course.walk.twin()
    amounts = list(course.amounts)
    walk.go_on(told_answer(walk.waiting[-1][0], value))
    step = walk.steps[-1]
    if step[0] in ("cut", "trim"):
        amounts.extend(parts_of(amounts[step[-3]], value))
    player = step[1]
    breakers = list(course.breakers)
    if player not in breakers and breaks_rule(step, amounts, worths, player):
        breakers = sorted([*breakers, player])
    go_silently(walk, amounts)
    return Course(walk, amounts, breakers)


def values_on(branch, ways):
    """Return the list of the answers that send each of some ways along its pieces."""
    values = []
    told = list(branch.answers)[::-1]
    for step in branch.steps:
        if step[0] in SILENT:
            continue
        value = None if step[0] == "cut" else told.pop()
        if value is None or value == "long":
            value = tuple([ONE if step[-2] in way else ZERO for way in ways])
        values.append(value)
    return values
