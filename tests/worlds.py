"""Worlds for books: works, letters, deeds and tellings as they are, kept beside the books that are led on in them.

A world does what section 10 lets happen in a crew, and holds each book to what the section promises: after each step
(a), (b) and (c), and (d) of all that a function returns. What it checks is worked out without the fronts and books of
the package, by tables of shifts alone.
"""

import collections
import copy

from support import put_soon, some_works
from timesover.books import beat, come, first_book, front, heard, over, took
from timesover.crews import Crew
from timesover.shifts import shifted
from timesover.tables import shift_table
from timesover.times import is_before, least_times


class Hand:
    """A hand that is there: its works, its book, how many tellings of each other one it has heard, what is not told."""

    def __init__(self, book, heard_many):
        self.book = book
        self.heard = heard_many
        self.works = []
        self.untold = []
        self.is_quiet = False
        # The books since its last own step: with each of them it can go on when it falls.
        self.saved = [(book, dict(heard_many))]


class World:
    """A crew at work; case is the test case that is told of what is wrong."""

    def __init__(self, case, crew):
        self.case = case
        self.crew = crew
        self.plan = crew.plan
        self.tables = {(one, other): shift_table(self.plan, one, other)
                       for one, _ in self.plan.places for other, _ in self.plan.places}
        self.letters = []
        self.tellings = {number: [] for number in range(crew.hands)}
        self.many_deeds = 0
        self.latest = max([part for _, (_, time) in crew.works for part in time], default=0)
        self.seen = collections.Counter()
        self.hands = {}
        for number in range(crew.hands):
            self.hands[number] = Hand(self.right(first_book, crew, number), {})
            self.hands[number].works = [point for hand, point in crew.works if hand == number]
        self.fronts = {number: self.fronts_of(number) for number in self.hands}
        self.check_all()

    # What happens.

    def deed(self, number, taken, put):
        """The hand takes a work, and puts others: put is a list of pairs of a hand and a point."""
        hand = self.hands[number]
        points = tuple(sorted(point for _, point in put))
        book, telling = self.right(took, self.crew, hand.book, taken, points)
        hand.works.remove(taken)
        for other, point in put:
            if other == number:
                hand.works.append(point)
            else:
                self.letters.append((other, point))
        self.many_deeds += 1
        self.latest = max([self.latest] + [part for _, time in points for part in time])
        hand.untold.append((taken, points))
        hand.is_quiet = False
        self.lead_own(number, book, telling)

    def beat(self, number):
        """The hand tells what is not told."""
        hand = self.hands[number]
        book, telling = self.right(beat, self.crew, hand.book)
        self.case.assertEqual(telling is None, not hand.untold)
        self.lead_own(number, book, telling)
        hand.is_quiet = telling is None

    def give(self, number, point, other):
        """The hand sends a work that it holds to another one."""
        self.hands[number].works.remove(point)
        self.letters.append((other, point))

    def arrive(self, letter):
        """A work that was under way is held."""
        self.letters.remove(letter)
        self.hands[letter[0]].works.append(letter[1])

    def hear(self, number, other):
        """The hand hears the next one of the other one's tellings."""
        hand = self.hands[number]
        many = hand.heard.get(other, 0)
        book = self.right(heard, self.crew, hand.book, other, self.tellings[other][many][0])
        hand.heard[other] = many + 1
        hand.saved.append((book, dict(hand.heard)))
        self.lead(number, book)

    def again(self, number, other, at):
        """The hand hears a telling that it has heard."""
        hand = self.hands[number]
        self.case.assertLess(at, hand.heard[other])
        self.seen["elder again"] += at < hand.heard[other] - 1
        book = self.right(heard, self.crew, hand.book, other, self.tellings[other][at][0])
        hand.saved.append((book, dict(hand.heard)))
        self.lead(number, book)

    def come(self, number, new):
        """A new hand comes beside this one, all of whose deeds are told."""
        hand = self.hands[number]
        self.case.assertFalse(hand.untold)
        book = self.right(come, self.crew, hand.book, new)
        self.seen["beside a newcomer"] += number >= self.crew.hands
        self.tellings[new] = []
        self.hands[new] = Hand(book, {**hand.heard, number: len(self.tellings[number])})
        self.fronts[new] = self.fronts[number]
        self.lead(new, book)

    def fall(self, number, at):
        """The hand goes on with one of the books that it had since its last own step."""
        hand = self.hands[number]
        self.seen["hears anew"] += hand.heard != hand.saved[at][1]
        hand.book, hand.heard = hand.saved[at][0], dict(hand.saved[at][1])
        hand.saved = hand.saved[:at + 1]
        self.fronts[number] = self.fronts_of(number)

    def go(self, number):
        """The hand, which has nothing, is no longer there."""
        hand = self.hands.pop(number)
        self.case.assertTrue(hand.is_quiet and not hand.works and not [to for to, _ in self.letters if to == number])

    def settle(self):
        """All letters arrive, all deeds are told, all tellings are heard."""
        for letter in list(self.letters):
            self.arrive(letter)
        for number in self.hands:
            self.beat(number)
        for number, other in self.open_ears():
            while self.hands[number].heard.get(other, 0) < len(self.tellings[other]):
                self.hear(number, other)
        self.check_all()
        for number in self.hands:
            self.case.assertFalse(self.lacks(number))
            self.case.assertEqual(self.fronts[number], self.fronts_by(self.works()))

    def twin(self):
        """A world that stands alike, with the same books, and goes on by itself."""
        return copy.deepcopy(self, {id(self.case): self.case, id(self.crew): self.crew})

    # What is so.

    def works(self):
        """The points of all works, held and under way."""
        return [point for hand in self.hands.values() for point in hand.works] + [point for _, point in self.letters]

    def open_ears(self):
        """The pairs of a hand and another one of whose tellings it has not heard some."""
        return [(number, other) for number, hand in sorted(self.hands.items()) for other in sorted(self.tellings)
                if other != number and hand.heard.get(other, 0) < len(self.tellings[other])]

    def heard_deeds(self, number):
        """The deeds that a hand has heard: its own ones, and those of the tellings that it has heard."""
        hand = self.hands[number]
        told = list(self.tellings[number])
        for other, many in hand.heard.items():
            told += self.tellings[other][:many]
        return [deed for _, deeds in told for deed in deeds] + hand.untold

    def counts(self, number):
        """The count of each point for a hand."""
        counts = collections.Counter(point for _, point in self.crew.works)
        for taken, put in self.heard_deeds(number):
            counts[taken] -= 1
            counts.update(put)
        return counts

    def lacks(self, number):
        """Whether some count is below 0 for a hand."""
        return any(count < 0 for count in self.counts(number).values())

    def fronts_by(self, points):
        """The fronts of all places for works at these points."""
        return [least_times(tuple(shifted(shift, time) for start, time in set(points)
                                  for shift in self.tables[start, place])) for place, _ in self.plan.places]

    def fronts_of(self, number):
        """The fronts of all places by a hand's book."""
        return [self.right(front, self.crew, self.hands[number].book, place) for place, _ in self.plan.places]

    # What is promised.

    def right(self, function, *arguments):
        """What the function returns: the same again, and no more than may be."""
        told = function(*arguments)
        self.case.assertEqual(repr(function(*arguments)), repr(told))
        return told

    def lead_own(self, number, book, telling):
        """The book is led on by an own step of the hand."""
        hand = self.hands[number]
        if telling is not None:
            self.tellings[number].append((telling, hand.untold))
            hand.untold = []
            self.check_small(telling)
        hand.saved = [(book, dict(hand.heard))]
        self.lead(number, book)

    def lead(self, number, book):
        """The hand goes on with a book that comes of its book: what was over stays over."""
        self.check_small(book)
        self.hands[number].book = book
        before, self.fronts[number] = self.fronts[number], self.fronts_of(number)
        self.check_covered(before, self.fronts[number])

    def check_covered(self, fronts, later):
        """Each time of the later fronts is at or behind one of the fronts of its place."""
        for known, times in zip(fronts, later):
            for time in times:
                self.case.assertTrue([far for far in known if is_before(far, time)], (fronts, later))

    def check_all(self):
        """(a) for each hand, and (c) where nothing lacks."""
        true_fronts = self.fronts_by(self.works())
        for number in self.hands:
            self.check_covered(self.fronts[number], true_fronts)
            counts = self.counts(number)
            if min(counts.values(), default=0) >= 0:
                self.seen["exact"] += 1
                counted = [point for point, count in counts.items() if count > 0]
                self.case.assertEqual(self.fronts[number], self.fronts_by(counted))
            else:
                self.seen["lacking"] += 1

    def check_over(self, number, place, time):
        """over tells what the front tells."""
        at = [name for name, _ in self.plan.places].index(place)
        wanted = not [far for far in self.fronts[number][at] if is_before(far, time)]
        self.case.assertIs(over(self.crew, self.hands[number].book, place, time), wanted)

    def check_small(self, value):
        """(d) of a book or a telling that was returned just now."""
        unheard = [deed for hand in self.hands.values() for deed in hand.untold]
        for other, rows in self.tellings.items():
            ears = [hand.heard.get(other, 0) for number, hand in self.hands.items() if number != other]
            unheard += [deed for _, deeds in rows[min(ears, default=len(rows)):] for deed in deeds]
        if self.tellings and value is not None:
            changed = sum(len({taken, *put}) for taken, put in unheard)
            most = 40 * (len(self.works()) + changed + len(self.plan) + len(self.tellings) + 8)
            self.case.assertLessEqual(many_parts(value), most)
        for part in all_parts(value):
            self.case.assertTrue(type(part) in (tuple, int, bool, type(None)) or part in self.plan, part)
            if type(part) is int:
                self.case.assertLessEqual(abs(part), 10 ** 6 + self.many_deeds + self.latest)


def many_parts(value):
    """How many parts a tuple has, those of its parts with them."""
    return sum(1 + many_parts(part) for part in value) if isinstance(value, tuple) else 0


def all_parts(value):
    """The value, and all parts of it."""
    return [value] + [far for part in value for far in all_parts(part)] if isinstance(value, tuple) else [value]


def some_crew(picks, plan):
    """A crew of the plan by a rule."""
    hands = picks.randint(2, 6)
    rows = [f"hands {hands}"]
    for place, time in some_works(picks, plan, 5):
        rows.append(" ".join(["work", str(picks.randrange(hands)), place, *map(str, time)]))
    return Crew(plan, "\n".join(rows))


def told_by(crew, book, taken, put):
    """The book behind a deed that is told, and the telling."""
    book, telling = took(crew, book, taken, put)
    if telling is None:
        book, telling = beat(crew, book)
    return book, telling


def some_put(world, picks, taken, most):
    """What can be put for a work, by a rule: each point soon behind taken, each for some hand."""
    put = []
    for _ in range(picks.randint(0, most)):
        point = put_soon(picks, world.plan, taken)
        if point is not None:
            put.append((picks.choice(sorted(world.hands)), point))
    return put


def do_step(world, picks, kinds):
    """One step by a rule, of these kinds; none if the kind that is picked cannot be."""
    kind = picks.choice(kinds)
    number = picks.choice(sorted(world.hands))
    hand = world.hands[number]
    if kind == "deed" and hand.works:
        taken = picks.choice(hand.works)
        world.deed(number, taken, some_put(world, picks, taken, 3 if len(world.works()) < 7 else 1))
    elif kind == "give" and hand.works and len(world.hands) > 1:
        others = [other for other in sorted(world.hands) if other != number]
        world.give(number, picks.choice(hand.works), picks.choice(others))
    elif kind == "arrive" and world.letters:
        world.arrive(picks.choice(world.letters))
    elif kind == "beat":
        world.beat(number)
    elif kind == "hear" and world.open_ears():
        world.hear(*picks.choice(world.open_ears()))
    elif kind == "again" and [other for other, many in hand.heard.items() if many]:
        other = picks.choice([other for other, many in sorted(hand.heard.items()) if many])
        world.again(number, other, picks.randrange(hand.heard[other]))
    elif kind == "come" and len(world.tellings) < 10 and not hand.untold:
        world.come(number, picks.choice([new for new in range(10) if new not in world.tellings]))
    elif kind == "fall":
        world.fall(number, picks.choice([0, picks.randrange(len(hand.saved))]))
    elif kind == "go" and len(world.hands) > 2 and not hand.works and number not in [to for to, _ in world.letters]:
        while not hand.is_quiet:
            world.beat(number)
        world.go(number)
    else:
        return
    world.seen[kind] += 1
    world.check_all()
    if world.hands:
        number = picks.choice(sorted(world.hands))
        place, depth = picks.choice(world.plan.places)
        world.check_over(number, place, tuple(picks.randrange(6) for _ in range(depth)))


KINDS = ("deed",) * 6 + ("give",) + ("arrive",) * 4 + ("beat",) * 2 + ("hear",) * 6 + ("again",) * 2 + ("fall",)
ALL_KINDS = KINDS * 2 + ("come", "come", "go")
