"""The errors of the package: TieError and, directly below it, all others."""


class TieError(ValueError):
    """What all errors of the package are; value is what the error tells."""

    def __init__(self, value):
        ValueError.__init__(self, value)
        self.value = value


class BadNumber(TieError):
    """The value is no integer, or none that can stand there."""


class BadFractions(TieError):
    """The value is no tuple of fractions, or one of another length."""


class BadNet(TieError):
    """The line of this number cannot stand there or is missing (0: no string)."""


class NoPlace(TieError):
    """The value is no place of the net."""


class Watches(TieError):
    """The place watches already."""


class NoWatcher(TieError):
    """The place does not watch."""


class Few(TieError):
    """Just so many places watch, and fewer cannot."""


class BadTie(TieError):
    """The two places cannot be tied, or are not tied."""


class Full(TieError):
    """There are just so many, and no more can be."""


class Last(TieError):
    """The tie is the last one of its net."""


class BadWay(TieError):
    """The value is no way of the net."""


class BadCosts(TieError):
    """The value is no costs for the ties of the net."""


class BadWeights(TieError):
    """The value is no weights for the ties of the net."""


class NoTie(TieError):
    """The value is no tie of the net."""


class BadPart(TieError):
    """The value is no part of the net."""


class NotBlind(TieError):
    """The value is no blind part of the net."""


class BadFailed(TieError):
    """The value is no ascending tuple of ways."""


class NoBlame(TieError):
    """No ties explain just these failed ways."""


class BadReadings(TieError):
    """The value is no readings of the net."""


class Torn(TieError):
    """No costs fit the readings, as these numbers of them show."""


class OtherTies(TieError):
    """The value is no net with the same places and ties."""


class BadOffers(TieError):
    """The value is no offers for the net."""


class BadWishes(TieError):
    """The value is no wishes for ties of the net."""


class NothingToUndo(TieError):
    """No deed stands that could be taken back."""


class NothingToRedo(TieError):
    """No deed was taken back that could be done again."""


class NoTrial(TieError):
    """There is no trial that could be kept."""


class BadJournal(TieError):
    """The line of this number is wrong or missing (0: no string)."""


class BadLine(TieError):
    """The value is no line that a desk takes."""
