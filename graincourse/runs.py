"""Runs: schemes that are carried out on stuff of several sorts."""

from graincourse.courses import first_course, fits_answer, next_course, values_on, worth_of
from graincourse.errors import BrokenRule, InvalidAnswer, InvalidWorths, NothingExpected, NothingLeft, UnknownPiece
from graincourse.grains import add_up, are_grains, are_worths
from graincourse.looks import least_behind, least_value
from graincourse.ratios import total
from graincourse.schemes import own_weights
from graincourse.sure import check_player, keepers_of

MOST_SORTS = 60

# Where the player stands in the statements that await an answer.
PLAYER_AT = {"cut": 2, "trim": 3, "pick": 1, "ask": 1}


def are_sorts(worths, players):
    """Return whether some rows are the worths of all sorts to so many players."""
    if not 1 <= len(worths) <= MOST_SORTS:
        return False
    return all([are_worths(row, players) for row in worths]) and add_up(worths, players)


def check_unbroken(course, players):
    """Raise the error of the first of some players who has broken a rule."""
    for player in players:
        if player in course.breakers:
            raise BrokenRule(player)


class Run:
    """A scheme, the worths of the sorts to each player, and the answers so far."""

    SORTS = 60

    def __init__(self, scheme, worths, *, keepers=()):
        if not are_sorts(worths, scheme.players):
            raise InvalidWorths()
        self.plan = scheme
        self.rows = tuple([tuple([tuple(worth) for worth in row]) for row in worths])
        self.given = []
        # One more than the answers, each behind one of them.
        self.courses = [first_course(scheme.statements(), len(worths))]
        # The answers that can be given again with the courses behind them, the next one last.
        self.undone = []
        self.set_keepers(keepers)

    @classmethod
    def replay(cls, scheme, place, grains, *, keepers=()):
        """Return the finished run on one sort for each grain, which follows a branch."""
        if not 0 <= place < len(scheme):
            raise InvalidWorths()
        branch = list(scheme.branches())[place]
        if not are_grains(branch, scheme.players, grains):
            raise InvalidWorths()
        run = cls(scheme, [worths for way, worths in grains], keepers=keepers)
        for value in values_on(branch, [way for way, worths in grains]):
            run.answer(value)
        return run

    def __len__(self):
        return len(self.given)

    def __eq__(self, other):
        if not isinstance(other, Run):
            return False
        return self.plan == other.plan and self.rows == other.rows and self.given == other.given

    @property
    def keepers(self):
        """The ascending tuple of the players who must not break rules."""
        return self.kept

    @keepers.setter
    def keepers(self, players):
        for player in players:
            check_player(self.plan, player)
        chosen = sorted(set(players))
        check_unbroken(self.courses[-1], chosen)
        self.kept = tuple(chosen)

    def set_keepers(self, players):
        """Let these players be the keepers."""
        self.keepers = players

    def awaited(self):
        """Return the word and the player of the statement that awaits an answer, None at the end."""
        statement = self.courses[-1].statement()
        if statement is None:
            return None
        word = statement[0]
        return (word, statement[PLAYER_AT[word]])

    def answer(self, value):
        """Give an answer to the statement that awaits one."""
        course = self.courses[-1]
        if course.statement() is None:
            raise NothingExpected()
        if not fits_answer(course, value):
            raise InvalidAnswer()
        following = next_course(course, value, self.rows)
        check_unbroken(following, self.kept)
        self.given.append(value)
        self.courses.append(following)
        self.undone = []

    def undo(self):
        """Take back the last answer."""
        if not self.given:
            raise NothingLeft()
        self.undone.append((self.given.pop(), self.courses.pop()))

    def redo(self):
        """Give the answer again that was taken back last."""
        if not self.undone:
            raise NothingLeft()
        value, course = self.undone[-1]
        check_unbroken(course, self.kept)
        self.undone.pop()
        self.given.append(value)
        self.courses.append(course)

    def history(self):
        """Return how many answers can be taken back, and how many can be given again."""
        return (len(self.given), len(self.undone))

    def clone(self):
        """Return an independent run with the same answers, history and keepers."""
        twin = Run(self.plan, self.rows)
        twin.given = list(self.given)
        twin.courses = list(self.courses)
        twin.undone = list(self.undone)
        twin.kept = self.kept
        return twin

    def told(self):
        """Return the tuple of the answers to trims, picks and asks."""
        return tuple(self.courses[-1].walk.answers)

    def broken(self):
        """Return the ascending list of the players who have broken a rule."""
        return list(self.courses[-1].breakers)

    def pieces(self):
        """Return a dict from the names of the present pieces, in ascending order, to their amounts."""
        course = self.courses[-1]
        present = course.walk.present
        return {name: course.amounts[present[name]] for name in sorted(present)}

    def worth(self, player, name):
        """Return the worth of a present piece to a player."""
        check_player(self.plan, player)
        course = self.courses[-1]
        if name not in course.walk.present:
            raise UnknownPiece(name)
        return worth_of(course.amounts[course.walk.present[name]], self.rows, player)

    def share(self, player):
        """Return the worth of all that a player has got, to this player."""
        check_player(self.plan, player)
        course = self.courses[-1]
        got = [step[2] for step in course.walk.steps if step[:2] == ("give", player)]
        return total([worth_of(course.amounts[piece], self.rows, player) for piece in got])

    def left(self):
        """Return the ascending list of the numbers of the branches that begin with the answers so far."""
        told = tuple(self.courses[-1].walk.answers)
        return [number for number, branch in enumerate(self.plan.branches()) if branch.answers[:len(told)] == told]

    def branches_left(self):
        """Return the list of the branches that begin with the answers so far."""
        listed = list(self.plan.branches())
        return [listed[number] for number in self.left()]

    def sure_now(self, player, *, honest=False):
        """Return the least share of a player on the branches that are left."""
        check_player(self.plan, player)
        watched = keepers_of(self.plan, player, honest)
        check_unbroken(self.courses[-1], watched)
        return least_value(self.branches_left(), player, own_weights(self.plan, player), watched)

    def due_now(self, player):
        """Return the least share of a player on the branches that are left, for pieces with their present worths."""
        check_player(self.plan, player)
        course = self.courses[-1]
        check_unbroken(course, [player])
        point = [worth_of(amounts, self.rows, player) for amounts in course.amounts]
        return least_behind(self.branches_left(), player, own_weights(self.plan, player), point)
