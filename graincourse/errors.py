"""The errors of the package. Each one tells its kind by its `word`."""


class GrainError(ValueError):
    """A value that is wrong."""

    def __init__(self, word="grainerror", message="a value is wrong"):
        ValueError.__init__(self, message)
        self.word = word


class MissingError(LookupError):
    """A name of something that is not there."""

    def __init__(self, word="missingerror", message="a name is unknown"):
        LookupError.__init__(self, message)
        self.word = word


class InvalidFraction(GrainError):
    """Numbers or a text that are no fraction."""

    def __init__(self):
        GrainError.__init__(self, "invalidfraction", "not a fraction")


class InvalidStatement(GrainError):
    """The statement at a place does not have its form."""

    def __init__(self, place):
        GrainError.__init__(self, "invalidstatement", f"statement {place} does not have its form")
        self.place = place


class TooLarge(GrainError):
    """There is more of something than its limit."""

    def __init__(self, limit):
        GrainError.__init__(self, "toolarge", f"more than {limit}")
        self.limit = limit


class UnknownPlayer(GrainError):
    """A number that is not the number of a player."""

    def __init__(self, player):
        GrainError.__init__(self, "unknownplayer", f"no player {player}")
        self.player = player


class DuplicatePiece(GrainError):
    """A new piece has the name of a piece that is present."""

    def __init__(self, name):
        GrainError.__init__(self, "duplicatepiece", f"the piece {name} is present already")
        self.name = name


class InvalidWeights(GrainError):
    """The number of weights is wrong."""

    def __init__(self):
        GrainError.__init__(self, "invalidweights", "the weights do not fit the scheme")


class InvalidWorths(GrainError):
    """The worths of the sorts are wrong."""

    def __init__(self):
        GrainError.__init__(self, "invalidworths", "the worths do not fit the scheme")


class InvalidAnswer(GrainError):
    """An answer does not fit its statement."""

    def __init__(self):
        GrainError.__init__(self, "invalidanswer", "the answer does not fit the statement")


class BrokenRule(GrainError):
    """A player who must not break rules breaks one."""

    def __init__(self, player):
        GrainError.__init__(self, "brokenrule", f"player {player} breaks a rule")
        self.player = player


class NothingExpected(GrainError):
    """An answer is given where none is awaited."""

    def __init__(self):
        GrainError.__init__(self, "nothingexpected", "no answer is awaited")


class NothingLeft(GrainError):
    """There is nothing to take back or to do again."""

    def __init__(self):
        GrainError.__init__(self, "nothingleft", "nothing is left to undo or redo")


class ParseError(GrainError):
    """The line at a place of a text cannot stand there."""

    def __init__(self, place):
        GrainError.__init__(self, "parseerror", f"line {place} cannot stand there")
        self.place = place


class InvalidName(GrainError):
    """A name that no outline can have."""

    def __init__(self, name):
        GrainError.__init__(self, "invalidname", f"no outline can be called {name}")
        self.name = name


class InUse(GrainError):
    """An outline is used by the outline that is named."""

    def __init__(self, name):
        GrainError.__init__(self, "inuse", f"the outline {name} uses it")
        self.name = name


class Cycle(GrainError):
    """An outline uses itself, directly or not."""

    def __init__(self, name):
        GrainError.__init__(self, "cycle", f"the outline {name} uses itself")
        self.name = name


class Unfit(GrainError):
    """An outline does not expand to a valid scheme."""

    def __init__(self, name):
        GrainError.__init__(self, "unfit", f"the outline {name} does not expand to a scheme")
        self.name = name


class InvalidCommand(GrainError):
    """The command at an index does not have its form."""

    def __init__(self, index):
        GrainError.__init__(self, "invalidcommand", f"command {index} does not have its form")
        self.index = index


class InvalidDocument(GrainError):
    """The row of a document is wrong."""

    def __init__(self, row):
        GrainError.__init__(self, "invaliddocument", f"row {row} is wrong")
        self.row = row


class UnknownPiece(MissingError):
    """A piece that is named is not present."""

    def __init__(self, name):
        MissingError.__init__(self, "unknownpiece", f"no piece {name}")
        self.name = name


class UnknownName(MissingError):
    """An outline that is named is not there."""

    def __init__(self, name):
        MissingError.__init__(self, "unknownname", f"no outline {name}")
        self.name = name
