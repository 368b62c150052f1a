"""The refusals: each kind of failure has a class of its own, straight under SignError."""


class SignError(ArithmeticError):
    """Any refusal."""


class NoFraction(SignError):
    """Something makes no fraction."""


class BadTable(SignError):
    """Something is no table."""


class NoFit(SignError):
    """A table has not the shape that is needed, or a list does not fit it."""


class NoPivot(SignError):
    """The entry at a place is neither 1 nor -1."""


class NotPlain(SignError):
    """A table has other entries than 0 and 1."""


class NoPart(SignError):
    """The numbers to be parted are not within the bounds."""


class NoLine(SignError):
    """A desk cannot take something as a line."""


class NoPick(SignError):
    """Something is no pick: at is the place of its first wrong thing, or -1."""

    def __init__(self, at):
        SignError.__init__(self, f"no pick, at {at}")
        self.at = at


class NoList(SignError):
    """A list, or a number beside it, is not as needed: word names the argument."""

    def __init__(self, word):
        SignError.__init__(self, f"not as needed: {word}")
        self.word = word


class NotWhole(SignError):
    """A table is not unimodular: rows is a pick of its rows without right signs."""

    def __init__(self, rows):
        SignError.__init__(self, f"no right signs for the rows {rows}")
        # The list stays the caller's own: changing it later must not change this refusal.
        self.rows = list(rows) if isinstance(rows, list) else rows


class NoTree(SignError):
    """Something is no list of ends: at is the place of its first wrong thing, or -1."""

    def __init__(self, at):
        SignError.__init__(self, f"no tree, at {at}")
        self.at = at


class NoArcs(SignError):
    """Something is no list of arcs: at is the place of its first wrong thing, or -1."""

    def __init__(self, at):
        SignError.__init__(self, f"no arcs, at {at}")
        self.at = at


class NoSum(SignError):
    """Two tables have no sum: at is 0 for the one, 1 for the other."""

    def __init__(self, at):
        SignError.__init__(self, f"no sum, at {at}")
        self.at = at


class TooMany(SignError):
    """There is more of something than is taken: many is how many are."""

    def __init__(self, many):
        SignError.__init__(self, f"more than {many}")
        self.many = many


class NoName(SignError):
    """No table stands by a name."""

    def __init__(self, name):
        SignError.__init__(self, f"no table by the name {name}")
        self.name = name


class NoText(SignError):
    """A text is not written as needed: part is the place of its first wrong part, or -1."""

    def __init__(self, part):
        SignError.__init__(self, f"not written as needed, at {part}")
        self.part = part
