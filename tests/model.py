"""What the document says of branches, written down once more, one branch at a time, with fractions of Python.

It follows given answers through the statements instead of making all branches
at once, and is slow and plain, so that it can be compared with the program.
"""


class Problem(Exception):
    """The word and the field of the error of a name."""


class Follower:
    def __init__(self, statements, choose):
        self.pieces = {"whole": 0}
        self.size = 1
        self.answers = []
        self.links = {}
        self.gifts = {}
        self.flow, self.own, self.empty, self.compared = [], [], [], []
        self.choose = choose
        self.follow(statements)

    def follow(self, statements):
        for statement in statements:
            getattr(self, statement[0])(*statement[1:])

    def take(self, *names):
        self.look(*names)
        return [self.pieces.pop(name) for name in names]

    def look(self, *names):
        for name in names:
            if name not in self.pieces:
                raise Problem("unknownpiece", name)
        return [self.pieces[name] for name in names]

    def put(self, name, piece):
        if name in self.pieces:
            raise Problem("duplicatepiece", name)
        self.pieces[name] = piece

    def make(self, *names):
        made = []
        for name in names:
            self.put(name, self.size)
            made.append(self.size)
            self.size += 1
        return made

    def told(self, options):
        answer = self.choose(options)
        self.answers.append(answer)
        return answer

    def part(self, piece, first, second):
        self.links[piece] = ("part", piece, first, second)
        self.flow.append({piece: 1, first: -1, second: -1})

    def cut(self, piece, player, share, first, second):
        [piece] = self.take(piece)
        first, second = self.make(first, second)
        self.part(piece, first, second)
        self.own.append((player, {first: share[1], piece: -share[0]}))

    def trim(self, piece, like, player, first, second):
        _, like = self.look(piece, like)
        [piece] = self.take(piece)
        first, second = self.make(first, second)
        self.part(piece, first, second)
        if self.told(["long", "short"]) == "long":
            self.own.append((player, {first: 1, like: -1}))
        else:
            self.empty.append(second)
            self.compared.append((player, {like: 1, piece: -1}))

    def pick(self, player, which, pieces, names):
        numbers = self.take(*pieces)
        index = self.told(list(range(len(pieces))))
        picked = numbers.pop(index)
        for name, number in zip(names, [picked, *numbers]):
            self.put(name, number)
        for number in numbers:
            more, less = (picked, number) if which == "greatest" else (number, picked)
            self.compared.append((player, {more: 1, less: -1}))

    def join(self, pieces, name):
        numbers = self.take(*pieces)
        [new] = self.make(name)
        for number in numbers:
            self.links[number] = ("join", tuple(numbers), new)
        self.flow.append({**{number: 1 for number in numbers}, new: -1})

    def give(self, piece, player):
        [piece] = self.take(piece)
        self.gifts[piece] = player

    def drop(self, piece):
        self.take(piece)

    def ask(self, player, piece, share, like, yes, no):
        piece, like = self.look(piece, like)
        answer = self.told(["yes", "no"])
        sign = 1 if answer == "yes" else -1
        entries = {piece: sign * share[1]}
        entries[like] = entries.get(like, 0) - sign * share[0]
        self.compared.append((player, entries))
        self.follow(yes if answer == "yes" else no)

    def row(self, entries):
        return tuple(entries.get(piece, 0) for piece in range(self.size))

    def all_links(self):
        return [self.links.get(piece) for piece in range(self.size)]

    def holders(self):
        return [None if piece in self.links else self.gifts.get(piece, 0) for piece in range(self.size)]

    def equations(self, player):
        owns = [entries for other, entries in self.own if other == player]
        return [self.row(entries) for entries in [*self.flow, *owns, *[{piece: 1} for piece in self.empty]]]

    def comparisons(self, player):
        return [self.row(entries) for other, entries in self.compared if other == player]


def all_followers(statements):
    """One follower for each branch, in order."""
    followers = []
    forced = []
    while forced is not None:
        asked = []

        def choose(options):
            place = len(asked)
            asked.append((options, forced[place] if place < len(forced) else 0))
            return options[asked[-1][1]]

        followers.append(Follower(statements, choose))
        forced = next_choices(asked)
    return followers


def next_choices(asked):
    """The indexes of the choices of the branch behind the one with these choices, None behind the last one."""
    while asked:
        options, last = asked.pop()
        if last + 1 < len(options):
            return [index for _, index in asked] + [last + 1]
    return None
