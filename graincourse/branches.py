"""Branches: single ways through the statements of a scheme, with all that is known of their pieces."""


def row_of(size, entries):
    """Return the row with these pairs (piece, number) added, and 0 elsewhere."""
    row = [0] * size
    for piece, number in entries:
        row[piece] += number
    return tuple(row)


def flow_entries(step):
    """Return the entries of what a cut, trim or join uses and makes, an empty list for other steps."""
    word = step[0]
    if word in ("cut", "trim"):
        return [(step[-3], 1), (step[-2], -1), (step[-1], -1)]
    if word == "join":
        pieces, new = step[1:]
        return [(piece, 1) for piece in pieces] + [(new, -1)]
    return []


def own_entries(step, player):
    """Return the entries of what a cut or trim of the player makes equal, an empty list for other steps."""
    word = step[0]
    if word == "cut" and step[1] == player:
        share, piece, first = step[2:5]
        return [(first, share[1]), (piece, -share[0])]
    if word == "trim" and step[1:3] == (player, "long"):
        like, first = step[3], step[5]
        return [(first, 1), (like, -1)]
    return []


def compared(step, player):
    """Return the entries of each comparison of the player that a step gives rise to, in order."""
    word = step[0]
    if word == "trim" and step[1:3] == (player, "short"):
        like, piece = step[3:5]
        return [[(like, 1), (piece, -1)]]
    if word == "pick" and step[1] == player:
        which, picked, *others = step[2:]
        sign = 1 if which == "greatest" else -1
        return [[(picked, sign), (other, -sign)] for other in others]
    if word == "ask" and step[1] == player:
        answer, share, piece, like = step[2:]
        sign = 1 if answer == "yes" else -1
        return [[(piece, sign * share[1]), (like, -sign * share[0])]]
    return []


class Branch:
    """One way through the statements of a scheme.

    The steps are the statements on it, with the numbers of the pieces instead
    of their names and with the answers:
    ("cut", player, share, piece, first, second),
    ("trim", player, answer, like, piece, first, second),
    ("pick", player, which, picked, other, ..), ("join", pieces, new),
    ("give", player, piece), ("drop", piece), ("ask", player, answer, share, piece, like).
    """

    def __init__(self, answers, size, steps):
        self.answers = tuple(answers)
        self.size = size
        self.steps = tuple(steps)

    def links(self):
        """Return a list that tells for each piece what parts or joins it, if anything does."""
        links = [None] * self.size
        for step in self.steps:
            if step[0] in ("cut", "trim"):
                links[step[-3]] = ("part", *step[-3:])
            elif step[0] == "join":
                for piece in step[1]:
                    links[piece] = step
        return links

    def holders(self):
        """Return a list of the holder of each piece, None for a piece that is parted or joined."""
        holders = [0 if link is None else None for link in self.links()]
        for step in self.steps:
            if step[0] == "give":
                player, piece = step[1:]
                holders[piece] = player
        return holders

    def empty_pieces(self):
        """Return the ascending list of the pieces that are empty."""
        return [step[-1] for step in self.steps if step[0] == "trim" and step[2] == "short"]

    def equations(self, player, known=()):
        """Return the list of the rows that have the value 0 for a player."""
        flows = [flow_entries(step) for step in self.steps]
        owns = [own_entries(step, player) for step in self.steps]
        empties = [[(piece, 1)] for piece in self.empty_pieces()]
        knowns = [[(piece, worth[1]), (0, -worth[0])] for piece, worth in known]
        return [row_of(self.size, entries) for entries in [*flows, *owns, *empties, *knowns] if entries]

    def comparisons(self, player):
        """Return the list of the rows that have values of at least 0 for a player."""
        return [row_of(self.size, entries) for step in self.steps for entries in compared(step, player)]

    def weighted(self, weights):
        """Return a list of the weight of the holder of each piece, 0 for a piece without one."""
        return [0 if holder is None else weights[holder] for holder in self.holders()]
