"""Yards: scripts played with books, beside what is really there."""

from timesover.basics import is_among, is_integer
from timesover.books import beat, come, first_book, front, heard, over, took
from timesover.crews import MOST_HANDS, MOST_PUT, changes_behind
from timesover.errors import BadHand, BadNumber, BadPut, BadStep, HasWork, NoLetter, NoWork
from timesover.plans import can_put, check_place, check_point, is_point
from timesover.reach import front_by
from timesover.sums import summed

# For each word of a step how many parts stand behind it.
STEPS = {
    "deed": 3, "give": 3, "arrive": 2, "beat": 1, "hear": 2, "again": 3, "catch_up": 1, "come": 2, "fall": 1, "go": 1,
    "settle": 0,
}


class Seat:
    """A hand that is or was there: its book, what it has heard and told, and with what it goes on when it falls."""

    def __init__(self, book, numbers):
        self.book = book
        # For each hand that there can be, how many of its tellings this one has heard.
        self.numbers = numbers
        self.kept = (book, numbers)
        # Pairs of a telling and the deeds that it tells; then the deeds that no telling has told.
        self.tellings = ()
        self.untold = ()


class Yard:
    """What is really there behind the steps of a script, and the book of each hand."""

    def __init__(self, crew):
        self.crew = crew
        self.hands = tuple(range(crew.hands))
        self.works = tuple(sorted(crew.works))
        self.letters = ()
        self.steps = ()
        # All hands that were ever there.
        self._seats = {hand: Seat(first_book(crew, hand), (0,) * MOST_HANDS) for hand in self.hands}

    def __len__(self):
        return len(self.steps)

    def deed(self, hand, taken, put):
        """The hand takes a work, and puts others, for itself or for other hands."""
        check_there(self, hand)
        check_held(self, hand, taken)
        if not is_put_for(self, taken, put):
            raise BadPut(put)
        points = tuple(sorted([point for other, point in put]))
        seat = self._seats[hand]
        book, telling = took(self.crew, seat.book, taken, points)
        seat.untold = (*seat.untold, (taken, points))
        lead_own(seat, book, telling)
        own = [row for row in put if row[0] == hand]
        self.works = with_rows(without_row(self.works, (hand, taken)), own)
        self.letters = with_rows(self.letters, [row for row in put if row[0] != hand])
        self.steps = (*self.steps, ("deed", hand, taken, put))

    def give(self, hand, point, other):
        """A work that the hand holds goes to another one by letter."""
        check_there(self, hand)
        check_held(self, hand, point)
        if not is_among(other, self.hands) or other == hand:
            raise BadHand(other)
        self.works = without_row(self.works, (hand, point))
        self.letters = with_rows(self.letters, [(other, point)])
        self.steps = (*self.steps, ("give", hand, point, other))

    def arrive(self, hand, point):
        """A work that is under way to the hand is held by it."""
        check_there(self, hand)
        check_point(self.crew.plan, point)
        if (hand, point) not in self.letters:
            raise NoLetter(point)
        self.letters = without_row(self.letters, (hand, point))
        self.works = with_rows(self.works, [(hand, point)])
        self.steps = (*self.steps, ("arrive", hand, point))

    def beat(self, hand):
        """The hand tells what it has not told."""
        check_there(self, hand)
        do_beat(self.crew, self._seats[hand])
        self.steps = (*self.steps, ("beat", hand))

    def hear(self, hand, other):
        """The hand hears the next telling of the other one, if there is one."""
        check_there(self, hand)
        check_known(self._seats, hand, other)
        hear_some(self.crew, self._seats, hand, other, 1)
        self.steps = (*self.steps, ("hear", hand, other))

    def again(self, hand, other, number):
        """The hand hears a telling once more that it has heard."""
        check_there(self, hand)
        check_known(self._seats, hand, other)
        seat = self._seats[hand]
        if not is_integer(number) or not 0 <= number < seat.numbers[other]:
            raise BadNumber(number)
        seat.book = heard(self.crew, seat.book, other, self._seats[other].tellings[number][0])
        self.steps = (*self.steps, ("again", hand, other, number))

    def catch_up(self, hand):
        """The hand hears all tellings that it has not heard."""
        check_there(self, hand)
        hear_all(self.crew, self._seats, hand)
        self.steps = (*self.steps, ("catch_up", hand))

    def come(self, hand, number):
        """A new hand with this number comes beside the hand, which tells what it has not told."""
        check_there(self, hand)
        if not is_integer(number) or not 0 <= number < MOST_HANDS or number in self._seats:
            raise BadNumber(number)
        seat = self._seats[hand]
        do_beat(self.crew, seat)
        # What the hand beside it has told is heard, too.
        numbers = (*seat.numbers[:hand], len(seat.tellings), *seat.numbers[hand + 1:])
        self._seats[number] = Seat(come(self.crew, seat.book, number), numbers)
        self.hands = tuple(sorted([*self.hands, number]))
        self.steps = (*self.steps, ("come", hand, number))

    def fall(self, hand):
        """The hand goes on with the book behind its last own step: what it has heard since then is not heard yet."""
        check_there(self, hand)
        seat = self._seats[hand]
        seat.book, seat.numbers = seat.kept
        self.steps = (*self.steps, ("fall", hand))

    def go(self, hand):
        """The hand, which has no work, tells what it has not told, and is no longer there."""
        check_there(self, hand)
        points = [point for other, point in (*self.works, *self.letters) if other == hand]
        if len(points) > 0:
            raise HasWork(min(points))
        if do_beat(self.crew, self._seats[hand]):
            do_beat(self.crew, self._seats[hand])
        self.hands = tuple([other for other in self.hands if other != hand])
        self.steps = (*self.steps, ("go", hand))

    def settle(self):
        """All hands tell what they have not told, and hear what they have not heard."""
        for hand in self.hands:
            do_beat(self.crew, self._seats[hand])
        for hand in self.hands:
            hear_all(self.crew, self._seats, hand)
        self.steps = (*self.steps, ("settle",))

    def step(self, value):
        """Does the step that value tells."""
        if not is_step(value):
            raise BadStep(value)
        steps = {
            "deed": self.deed, "give": self.give, "arrive": self.arrive, "beat": self.beat, "hear": self.hear,
            "again": self.again, "catch_up": self.catch_up, "come": self.come, "fall": self.fall, "go": self.go,
            "settle": self.settle,
        }
        do = steps[value[0]]
        rest = value[1:]
        do(*rest)

    def counts(self, hand):
        """The points whose count for the hand is not 0, each with its count."""
        check_there(self, hand)
        return summed(changes_behind([point for holder, point in self.crew.works], heard_deeds(self._seats, hand)))

    def lacks(self, hand):
        """The points whose count for the hand is below 0, each with its count."""
        return tuple([row for row in self.counts(hand) if row[1] < 0])

    def unheard(self, hand):
        """The deeds that the hand has not heard, told or not, each with the hand that did it."""
        check_there(self, hand)
        rows = []
        for other, seat in self._seats.items():
            if other != hand:
                deeds = all_deeds(seat, self._seats[hand].numbers[other])
                rows.extend([(other, taken, put) for taken, put in deeds])
        return tuple(sorted(rows))

    def front(self, hand, place):
        """The front of the place by the book of the hand."""
        check_there(self, hand)
        return front(self.crew, self._seats[hand].book, place)

    def over(self, hand, place, time):
        """Whether the time is over at the place by the book of the hand."""
        check_there(self, hand)
        return over(self.crew, self._seats[hand].book, place, time)

    def true_front(self, place):
        """The front of the place by all works that there are."""
        check_place(self.crew.plan, place)
        return front_by(self.crew.tables, [point for hand, point in (*self.works, *self.letters)], place)

    def copy(self):
        """A yard with the same steps, which goes on by itself."""
        yard = Yard(self.crew)
        yard.hands = self.hands
        yard.works = self.works
        yard.letters = self.letters
        yard.steps = self.steps
        yard._seats = {hand: seat_like(seat) for hand, seat in self._seats.items()}
        return yard


def seat_like(seat):
    """A seat that stands alike, and goes on by itself."""
    other = Seat(seat.book, seat.numbers)
    other.kept = seat.kept
    other.tellings = seat.tellings
    other.untold = seat.untold
    return other


def check_there(yard, value):
    """Raises BadHand unless value is the number of a hand that is there."""
    if not is_among(value, yard.hands):
        raise BadHand(value)


def check_known(seats, hand, value):
    """Raises BadHand unless value is the number of another hand that is or was there."""
    if not is_among(value, seats) or value == hand:
        raise BadHand(value)


def check_held(yard, hand, value):
    """Raises BadPoint unless value is a point, and NoWork unless the hand holds a work there."""
    check_point(yard.crew.plan, value)
    if (hand, value) not in yard.works:
        raise NoWork(value)


def is_put_for(yard, taken, value):
    """Whether any value are pairs of hands that are there and points that can be put for taken."""
    if not isinstance(value, tuple) or len(value) > MOST_PUT:
        return False
    if not all([isinstance(row, tuple) and len(row) == 2 and is_among(row[0], yard.hands) for row in value]):
        return False
    plan = yard.crew.plan
    return all([is_point(plan, point) and can_put(plan, taken, point) for hand, point in value])


def is_step(value):
    """Whether any value is a tuple of a word of a step, and as many parts behind it as there should be."""
    if not isinstance(value, tuple) or len(value) == 0 or not isinstance(value[0], str):
        return False
    return value[0] in STEPS and len(value) - 1 == STEPS[value[0]]


def with_rows(rows, more):
    """The rows and some more, ascending."""
    return tuple(sorted([*rows, *more]))


def without_row(rows, row):
    """The rows without one that is equal to this one."""
    at = rows.index(row)
    return rows[:at] + rows[at + 1:]


def lead_own(seat, book, telling):
    """The hand goes on with a book that it has by a deed or a beat of its own; a telling, if there is one, goes."""
    seat.book = book
    seat.kept = (book, seat.numbers)
    if telling is not None:
        seat.tellings = (*seat.tellings, (telling, seat.untold))
        seat.untold = ()


def do_beat(crew, seat):
    """The hand does a beat; returns whether it told something."""
    book, telling = beat(crew, seat.book)
    lead_own(seat, book, telling)
    return telling is not None


def hear_some(crew, seats, hand, other, most):
    """The hand hears the next tellings of the other one, so many at most."""
    seat = seats[hand]
    begun = seat.numbers[other]
    for telling, _ in seats[other].tellings[begun:begun + most]:
        seat.book = heard(crew, seat.book, other, telling)
    many = min(begun + most, len(seats[other].tellings))
    seat.numbers = (*seat.numbers[:other], many, *seat.numbers[other + 1:])


def hear_all(crew, seats, hand):
    """The hand hears all tellings that it has not heard, of lesser hands first."""
    for other in sorted(seats):
        if other != hand:
            hear_some(crew, seats, hand, other, len(seats[other].tellings))


def all_deeds(seat, many):
    """The deeds of a hand that are not told by its first so many tellings."""
    return [*[deed for _, deeds in seat.tellings[many:] for deed in deeds], *seat.untold]


def heard_deeds(seats, hand):
    """The deeds that the hand has heard: its own ones, and those of the tellings that it has heard."""
    deeds = all_deeds(seats[hand], 0)
    for other, seat in seats.items():
        if other != hand:
            deeds.extend([deed for _, rows in seat.tellings[:seats[hand].numbers[other]] for deed in rows])
    return deeds
