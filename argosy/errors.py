"""The refusals: each is a class of its own, straight under ArgosyError."""


class ArgosyError(ValueError):
    """Any refusal."""


class BadNumber(ArgosyError):
    """A number that is none of those asked for: no slip, no day, no size, no place."""


class BadFact(ArgosyError):
    """A fact that isn't sound."""


class BadFleet(ArgosyError):
    """Lists of timbers that are no fleet, or a list that is no boat for its slip."""


class BadText(ArgosyError):
    """A text that isn't made as it is to be written."""


class Late(ArgosyError):
    """A day that the yard has reached or passed already."""


class Taken(ArgosyError):
    """A day for which a fact is kept already."""


class NoFact(ArgosyError):
    """A day for which no fact is kept."""


class NoDeed(ArgosyError):
    """No deed is there to be taken back, done again or known."""


class NoBoat(ArgosyError):
    """A name of which no boat is afloat."""


class NoName(ArgosyError):
    """A name that was never given."""


class NoTimber(ArgosyError):
    """A timber that wasn't felled."""


class NoChoice(ArgosyError):
    """A number of no choice, or a boat that is none."""
