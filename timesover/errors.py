"""All errors of the package, each for one kind of failure."""


class OverError(ValueError):
    """What all errors of the package derive from; value is the only argument."""

    def __init__(self, value):
        self.value = value


class BadTime(OverError):
    """What is given is no time, or none of this place."""


class BadTimes(OverError):
    """What is given is no tuple of times of one depth."""


class BadDepth(OverError):
    """The depth of a time, or of a shift, does not suit."""


class BadShift(OverError):
    """What is given is no shift, or does not lead from this depth."""


class BadShifts(OverError):
    """What is given is no tuple of shifts that suit each other."""


class BadNumber(OverError):
    """What is given is no integer as it is asked for."""


class Below(OverError):
    """This shift is below the one that is to be parted from it."""


class BadPlan(OverError):
    """The line with this number is none that can stand in the text of a plan."""


class BadName(OverError):
    """What is given is not the name of a place of the plan."""


class BadPoint(OverError):
    """What is given is no point of the plan."""


class BadNames(OverError):
    """What is given is no tuple of names as it is asked for."""


class BadWay(OverError):
    """What is given is no way, or no ring, from this place."""


class TooMany(OverError):
    """There are more than this many."""


class BadTrace(OverError):
    """What is given is no trace."""


class NotSound(OverError):
    """The plan is not sound: value is what soundness tells."""


class BadCrew(OverError):
    """The line with this number is none that can stand in the text of a crew."""


class BadPut(OverError):
    """What is given cannot be put."""


class BadDeeds(OverError):
    """The deed with this number is none."""


class BadHand(OverError):
    """What is given is not the number of a hand."""


class Late(OverError):
    """This time is rung."""


class BadRings(OverError):
    """What is given are no rings."""


class BadRule(OverError):
    """The line with this number is none that can stand in the text of a rule."""


class OtherPlan(OverError):
    """The crew has another plan, with this text."""


class BadScript(OverError):
    """The step with this number is none, or cannot be done."""


class BadHeard(OverError):
    """What is given does not tell what a hand has heard."""


class BadNet(OverError):
    """What is given is not the word of a net."""


class BadPlaces(OverError):
    """What is given is no lot of places."""


class BadCounts(OverError):
    """What is given are no counts."""


class BadWorks(OverError):
    """What is given are no works."""


class BadPairs(OverError):
    """What is given are no pairs of hands."""


class NoPair(OverError):
    """These two hands are no pair of the net."""


class BadDoors(OverError):
    """What is given are no doors."""


class BadHistory(OverError):
    """The deed with this number is none, or its work is not there."""


class BadCut(OverError):
    """What is given is no cut of the history."""


class NoWork(OverError):
    """The hand holds no work at this point."""


class NoLetter(OverError):
    """No work at this point is under way to the hand."""


class HasWork(OverError):
    """The hand holds a work at this point, or one is under way to it."""


class BadStep(OverError):
    """What is given is no step."""


class BadLog(OverError):
    """The line with this number is none that can stand in the text of a log."""


class BadJournal(OverError):
    """The line with this number is none that can stand in a journal."""


class NoEntry(OverError):
    """What is given is not the name of an entry."""


class BadEntry(OverError):
    """What is given is no name for an entry, or for a mark."""


class Held(OverError):
    """There is an entry of this name."""


class NothingToUndo(OverError):
    """No step of this entry stands."""


class NothingToRedo(OverError):
    """No step of this entry is undone."""


class NoMark(OverError):
    """What is given is not a mark of the entry."""


class BadDesk(OverError):
    """The line with this number is none that can stand in the text of a desk."""
