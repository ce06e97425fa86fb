"""The refusals, each a class of its own straight under HalvedError."""


class HalvedError(ValueError):
    """Any refusal, made of a text."""

    def __init__(self, words):
        ValueError.__init__(self, words)


class NoField(HalvedError):
    """What was handed in is no field."""

    def __init__(self, found):
        HalvedError.__init__(self, "this is no field")
        self.found = found


class NoPlace(HalvedError):
    """What was handed in is no place there."""

    def __init__(self, found):
        HalvedError.__init__(self, "this is no place there")
        self.found = found


class NoNumber(HalvedError):
    """What was handed in is no such whole number."""

    def __init__(self, found):
        HalvedError.__init__(self, "this is no such whole number")
        self.found = found


class NoText(HalvedError):
    """By what was handed in no field is written."""

    def __init__(self, found):
        HalvedError.__init__(self, "by this no field is written")
        self.found = found


class NoRow(HalvedError):
    """What was handed in is no row that can be halved."""

    def __init__(self, found):
        HalvedError.__init__(self, "this is no row that can be halved")
        self.found = found


class NoHalves(HalvedError):
    """What was handed in are no sums and differences of a row."""

    def __init__(self, sums, differences):
        HalvedError.__init__(self, "these are no sums and differences of a row")
        self.sums = sums
        self.differences = differences


class NoRule(HalvedError):
    """What was handed in is no rule's word."""

    def __init__(self, found):
        HalvedError.__init__(self, "this is no rule's word")
        self.found = found


class NoSize(HalvedError):
    """What was handed in is no height and width."""

    def __init__(self, one, other):
        HalvedError.__init__(self, "these are no height and width")
        self.one = one
        self.other = other


class NoWay(HalvedError):
    """What was handed in is no way for this size."""

    def __init__(self, found):
        HalvedError.__init__(self, "this is no way for this size")
        self.found = found


class NoStep(HalvedError):
    """What was handed in is no number of a step."""

    def __init__(self, found):
        HalvedError.__init__(self, "this is no number of a step")
        self.found = found


class Unlike(HalvedError):
    """Two sizes that have to be the same are not."""

    def __init__(self, one, other):
        HalvedError.__init__(self, "these sizes are not the same")
        self.one = one
        self.other = other


class TooGreat(HalvedError):
    """A field's number at a place is beyond its bounds."""

    def __init__(self, place):
        HalvedError.__init__(self, "the number at a place is beyond its bounds")
        self.place = place


class NoMany(HalvedError):
    """What was handed in does not tell how many."""

    def __init__(self, found):
        HalvedError.__init__(self, "this does not tell how many")
        self.found = found


class TooMany(HalvedError):
    """A picture has too many places for this."""

    def __init__(self, found):
        HalvedError.__init__(self, "there are too many places for this")
        self.found = found


class NoPlaces(HalvedError):
    """What was handed in are no places, each once."""

    def __init__(self, found):
        HalvedError.__init__(self, "these are no places, each once")
        self.found = found


class NoSquares(HalvedError):
    """Squares are not told by this rule."""

    def __init__(self, found):
        HalvedError.__init__(self, "squares are not told by this rule")
        self.found = found


class NoDeed(HalvedError):
    """No deed stands that could be undone."""

    def __init__(self, found):
        HalvedError.__init__(self, "no deed stands that could be undone")
        self.found = found


class NoHead(HalvedError):
    """What was handed in has no head of a row of signs."""

    def __init__(self, found):
        HalvedError.__init__(self, "this has no head of a row of signs")
        self.found = found


class BadSign(HalvedError):
    """A sign of a row of signs can't stand at its place."""

    def __init__(self, where):
        HalvedError.__init__(self, "a sign can't stand at its place")
        self.where = where


class NoLine(HalvedError):
    """What was handed in is no line for a desk."""

    def __init__(self, found):
        HalvedError.__init__(self, "this is no line for a desk")
        self.found = found
