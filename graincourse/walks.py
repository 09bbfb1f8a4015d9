"""Walks through the statements of a scheme, which end as its branches."""

from graincourse.branches import Branch
from graincourse.errors import DuplicatePiece, UnknownPiece


def used_names(statement):
    """Return the list of the names of pieces that a statement uses, in order."""
    word = statement[0]
    if word == "trim":
        return [statement[1], statement[2]]
    if word == "ask":
        return [statement[2], statement[4]]
    if word == "pick":
        return list(statement[3])
    if word == "join":
        return list(statement[1])
    return [statement[1]]


def freed_names(statement):
    """Return the list of the names that are free behind a statement, also for its own new names."""
    word = statement[0]
    if word == "trim":
        return [statement[1]]
    if word == "ask":
        return []
    return used_names(statement)


def new_names(statement):
    """Return the list of the names that a statement gives, in order."""
    word = statement[0]
    if word in ("cut", "trim"):
        return [statement[4], statement[5]]
    if word == "pick":
        return list(statement[4])
    if word == "join":
        return [statement[2]]
    return []


def possible_answers(statement):
    """Return the list of the answers to a statement in order, with None alone if it awaits none."""
    word = statement[0]
    if word == "trim":
        return ["long", "short"]
    if word == "pick":
        return list(range(len(statement[3])))
    if word == "ask":
        return ["yes", "no"]
    return [None]


def check_names(statement, present):
    """Raise the error of the first name in a statement that is missing or taken."""
    for name in used_names(statement):
        if name not in present:
            raise UnknownPiece(name)
    freed = freed_names(statement)
    for name in new_names(statement):
        if name in present and name not in freed:
            raise DuplicatePiece(name)


def step_of(statement, answer, used, named):
    """Return the step of a statement, with the numbers of the pieces that it uses and names."""
    word = statement[0]
    if word == "cut":
        return ("cut", statement[2], statement[3], *used, *named)
    if word == "trim":
        piece, like = used
        return ("trim", statement[3], answer, like, piece, *named)
    if word == "pick":
        return ("pick", statement[1], statement[2], *named)
    if word == "join":
        return ("join", tuple(used), *named)
    if word == "ask":
        return ("ask", statement[1], answer, statement[3], *used)
    if word == "give":
        return ("give", statement[2], *used)
    return ("drop", *used)


class Walk:
    """A way through the statements, as far as it has come."""

    def __init__(self, statements):
        # The next statement stands last, so that it is easily taken off.
        self.waiting = list(statements)[::-1]
        self.present = {"whole": 0}
        self.size = 1
        self.answers = []
        self.steps = []

    def twin(self):
        """Return another walk that has come just as far."""
        other = Walk(())
        other.waiting = list(self.waiting)
        other.present = dict(self.present)
        other.size = self.size
        other.answers = list(self.answers)
        other.steps = list(self.steps)
        return other

    def numbers_named(self, statement, answer, used):
        """Return the list of the numbers of the pieces to which a statement gives its new names."""
        if statement[0] == "pick":
            return [used[answer], *used[:answer], *used[answer + 1:]]
        return [self.size + index for index in range(len(new_names(statement)))]

    def go_on(self, answer):
        """Carry out the next statement, for which the names are right."""
        statement = self.waiting.pop()
        used = [self.present[name] for name in used_names(statement)]
        named = self.numbers_named(statement, answer, used)
        for name in freed_names(statement):
            del self.present[name]
        for name, piece in zip(new_names(statement), named):
            self.present[name] = piece
        self.size = max([self.size, *[piece + 1 for piece in named]])
        self.steps.append(step_of(statement, answer, used, named))
        if answer is not None:
            self.answers.append(answer)
        if statement[0] == "ask":
            side = statement[5] if answer == "yes" else statement[6]
            self.waiting.extend(list(side)[::-1])


def all_branches(statements):
    """Return the list of the branches of statements in order, or raise the error of a name on the first one."""
    ended = []
    walks = [Walk(statements)]
    while walks:
        walk = walks.pop()
        if not walk.waiting:
            ended.append(Branch(walk.answers, walk.size, walk.steps))
            continue
        statement = walk.waiting[-1]
        check_names(statement, walk.present)
        answers = possible_answers(statement)
        onward = [walk, *[walk.twin() for answer in answers[1:]]]
        for each, answer in zip(onward, answers):
            each.go_on(answer)
        # The walk with the first answer is taken next, and goes on to its end.
        walks.extend(onward[::-1])
    return ended
