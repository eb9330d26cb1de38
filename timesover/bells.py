"""Bells: sums of values, told once their times are over, and then for good."""

from timesover.basics import is_integer
from timesover.books import front
from timesover.errors import BadNumber, BadRings, BadTimes, Late
from timesover.plans import check_place, check_time_at, depth_of, is_point
from timesover.sums import all_sums
from timesover.times import are_times, common_times, has_at_most


def due_times(crew, book, place, times):
    """Those of times that are over at this place by the book."""
    check_place(crew.plan, place)
    if not isinstance(times, tuple) or not all([is_point(crew.plan, (place, time)) for time in times]):
        raise BadTimes(times)
    begun = front(crew, book, place)
    return tuple([time for time in sorted(set(times)) if not has_at_most(begun, time)])


class Bell:
    """The bell of a hand at a place: the values that it holds, and what it has told of them."""

    def __init__(self, crew, place):
        zeros = (0,) * depth_of(crew.plan, place)
        self.crew = crew
        self.place = place
        self.waiting = ()
        self.told = ()
        self.open_times = (zeros,)

    def put(self, time, number):
        """Holds this value, too."""
        check_time_at(self.crew.plan, self.place, time)
        if not is_integer(number):
            raise BadNumber(number)
        if not has_at_most(self.open_times, time):
            raise Late(time)
        self.waiting = all_sums((*self.waiting, (time, number)))

    def ring(self, book):
        """Rings all times that are over by the book, and tells the sums that waited for them."""
        # What is over by this book adds to what was rung by others, also if theirs were not ahead of this one.
        self.open_times = common_times(self.open_times, front(self.crew, book, self.place))
        rung = tuple([row for row in self.waiting if not has_at_most(self.open_times, row[0])])
        self.waiting = tuple([row for row in self.waiting if has_at_most(self.open_times, row[0])])
        self.told = self.told + rung
        return rung

    def copy(self):
        """A bell that holds the same, and goes on by itself."""
        bell = Bell(self.crew, self.place)
        bell.waiting = self.waiting
        bell.told = self.told
        bell.open_times = self.open_times
        return bell


def joined_rings(rings):
    """All times that bells have told, each with the sum of all integers that stand with it."""
    if not are_rings(rings):
        raise BadRings(rings)
    return all_sums([row for rung in rings for row in rung])


def are_rings(value):
    """Whether any value is a tuple of tuples of pairs of a time and an integer, all these times of one depth."""
    if not isinstance(value, tuple) or not all([isinstance(rung, tuple) for rung in value]):
        return False
    rows = [row for rung in value for row in rung]
    if not all([isinstance(row, tuple) and len(row) == 2 and is_integer(row[1]) for row in rows]):
        return False
    return are_times(tuple([row[0] for row in rows]))
