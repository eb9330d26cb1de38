"""Bells (section 11)."""

import collections

from support import NEVER, NO_NAMES, NO_TIMES_AT_B, Case, Picks, all_times, sound_plans
from timesover.bells import Bell, due_times, joined_rings
from timesover.books import first_book, front, heard, over, took
from timesover.crews import Crew
from timesover.errors import BadName, BadNumber, BadRings, BadTime, BadTimes, Late
from timesover.plans import Plan, depth_of
from timesover.times import is_before, least_times
from worlds import ALL_KINDS, World, do_step, some_crew, told_by

ROWS = ["place a 1", "place b 2", "place c 1", "line a b +0 =0", "line b b +0 +1", "line b c +0", "line c a +1"]
CREW = Crew(Plan("\n".join(ROWS)), "hands 3\nwork 0 a 0\nwork 2 b 1 1")
LINE = Crew(Plan("place a 1\nline a a +1"), "hands 3\nwork 0 a 2\nwork 0 a 4")


def shown(bell):
    """All that a bell shows."""
    return bell.crew, bell.place, bell.waiting, bell.told, bell.open_times


class Ringing(World):
    """A world in which each hand has a bell at each place, into which it puts a value for each work that it takes."""

    def __init__(self, case, crew, picks):
        World.__init__(self, case, crew)
        self.picks = picks
        self.bells = {}
        # For each place the values that were put, by their times; for each bell the fronts of what it was rung with.
        self.values = {place: collections.Counter() for place, _ in self.plan.places}
        self.rung = {}

    def bell(self, number, place):
        """The hand's bell at the place."""
        if (number, place) not in self.bells:
            self.bells[number, place] = Bell(self.crew, place)
            self.rung[number, place] = []
        return self.bells[number, place]

    def deed(self, number, taken, put):
        place, time = taken
        value = self.picks.randint(-3, 9)
        bell = self.bell(number, place)
        is_ahead = self.picks.randrange(2)
        if is_ahead:
            bell.put(time, value)
        World.deed(self, number, taken, put)
        if not is_ahead:
            bell.put(time, value)
        self.values[place][time] += value
        self.seen["put"] += 1

    def ring(self, number, place):
        """The bell is rung with the book of its hand."""
        bell, book = self.bell(number, place), self.hands[number].book
        waiting, told = bell.waiting, bell.told
        self.rung[number, place].append(front(self.crew, book, place))
        rung = bell.ring(book)
        wanted = tuple(row for row in waiting if self.is_rung(number, place, row[0]))
        self.case.alike(rung, wanted)
        self.case.alike(bell.waiting, tuple(row for row in waiting if row not in wanted))
        self.case.alike(bell.told, told + wanted)
        self.seen["told"] += len(wanted)
        for time in all_times(depth_of(self.plan, place), 4):
            self.case.assertEqual(self.is_rung(number, place, time),
                                  not [far for far in bell.open_times if is_before(far, time)])
        self.case.alike(bell.open_times, least_times(bell.open_times))

    def is_rung(self, number, place, time):
        """Whether the bell was rung with a book by which this time is over."""
        return any(not [far for far in known if is_before(far, time)] for known in self.rung[number, place])

    def check_sums(self):
        """Behind all: each time was told once by each bell, and the parts of all bells add up."""
        for place, _ in self.plan.places:
            mine = {number: bell for (number, far), bell in self.bells.items() if far == place}
            told = collections.Counter()
            for number, bell in mine.items():
                self.case.assertEqual(len(bell.told), len({time for time, _ in bell.told}))
                for time, value in bell.told + (() if number in self.hands else bell.waiting):
                    told[time] += value
            # What could still come to a time need not be told.
            done = {time for time in self.values[place] if not self.can_come(place, time)}
            for time in done:
                self.case.assertEqual(told[time], self.values[place][time])
                for number, bell in mine.items():
                    self.case.assertFalse(number in self.hands and time in dict(bell.waiting))
            rings = tuple(bell.told for bell in mine.values())
            self.case.alike(joined_rings(rings), self.joined(rings))

    def can_come(self, place, time):
        """Whether a work could come to the place at the time."""
        at = [name for name, _ in self.plan.places].index(place)
        return any(is_before(far, time) for far in self.fronts_by(self.works())[at])

    def joined(self, rings):
        """What the rings add up to."""
        times = sorted({time for rung in rings for time, _ in rung})
        return tuple((time, sum(value for rung in rings for far, value in rung if far == time)) for time in times)


class Scripts(Case):

    def test_no_put_is_late_and_the_parts_of_all_bells_add_up(self):
        seen = collections.Counter()
        picks = Picks(70)
        for at, plan in enumerate(sound_plans(70, 200, most_lines=5)):
            world = Ringing(self, some_crew(picks, plan), Picks(at))
            for _ in range(60):
                do_step(world, world.picks, ALL_KINDS)
                if world.hands and world.picks.randrange(2):
                    world.ring(world.picks.choice(sorted(world.hands)), world.picks.choice(plan.places)[0])
            world.settle()
            for number in world.hands:
                for place, _ in plan.places:
                    world.ring(number, place)
                    world.ring(number, place)
            world.check_sums()
            seen += world.seen
        self.assertGreater(min(seen["put"], seen["told"]), 300)


class Due(Case):

    def test_the_times_that_are_over(self):
        picks = Picks(71)
        for plan in sound_plans(71, 40):
            crew = some_crew(picks, plan)
            book = first_book(crew, 0)
            for place, depth in plan.places:
                times = tuple(tuple(picks.randrange(6) for _ in range(depth)) for _ in range(picks.randint(0, 6)))
                times += times[:picks.randint(0, 2)]
                wanted = sorted({time for time in times if over(crew, book, place, time)})
                self.alike(due_times(crew, book, place, times), tuple(wanted))

    def test_arguments_by_name(self):
        times = ((9,), (1,), (0,), (1,))
        self.alike(due_times(times=times, place="a", book=first_book(LINE, 1), crew=LINE), ((0,), (1,)))
        self.alike(due_times(LINE, first_book(LINE, 1), "a", ()), ())

    def test_what_is_no_name_or_are_no_times_of_the_place_is_refused(self):
        book = first_book(CREW, 0)
        for wrong in NO_NAMES:
            self.refuses(BadName, wrong, due_times, CREW, book, wrong, ())
            self.refuses(BadName, wrong, due_times, CREW, book, wrong, None)
        for wrong in NEVER + ((0, 0), [(0, 0)], ((0,),), ((0, 0), (0,)), ((0, 0, 0),), ((0, 0), None), ((0, True),),
                              ([0, 0],), ((0, -1),), (((0, 0),),), {(0, 0): 1}, ((0, 0), (1, "1"))):
            self.refuses(BadTimes, wrong, due_times, CREW, book, "b", wrong)


class Bells(Case):

    def test_a_new_bell(self):
        for place, zeros in (("a", (0,)), ("b", (0, 0))):
            bell = Bell(CREW, place)
            self.assertIs(bell.crew, CREW)
            self.alike(shown(bell)[1:], (place, (), (), (zeros,)))
        self.alike(Bell(place="a", crew=Crew(Plan("place a 4"), "hands 2")).open_times, ((0, 0, 0, 0),))

    def test_values_wait_by_their_times(self):
        bell = Bell(LINE, "a")
        for time, value in (((5,), 1), ((3,), -7), ((5,), 2), ((10,), 0), ((3,), 7), ((4,), 10 ** 39)):
            self.alike(bell.put(time, value), None)
        self.alike(bell.waiting, (((3,), 0), ((4,), 10 ** 39), ((5,), 3), ((10,), 0)))
        self.alike(bell.put(number=-3, time=(5,)), None)
        self.alike([dict(bell.waiting)[(5,)], bell.told, bell.open_times], [0, (), ((0,),)])

    def test_what_is_rung_is_told_once_and_in_order(self):
        bell, book = Bell(LINE, "a"), first_book(LINE, 0)
        for time in ((4,), (1,), (3,), (0,), (2,)):
            bell.put(time, time[0] + 100)
        self.alike(bell.ring(book), (((0,), 100), ((1,), 101)))
        self.alike([bell.ring(book), bell.told], [(), (((0,), 100), ((1,), 101))])
        book, _ = took(LINE, book, ("a", (2,)), ())
        self.alike(bell.ring(book=book), (((2,), 102), ((3,), 103)))
        self.alike([bell.waiting, bell.open_times], [(((4,), 104),), ((4,),)])
        book, _ = took(LINE, book, ("a", (4,)), ())
        self.alike([bell.ring(book), bell.waiting, bell.open_times], [(((4,), 104),), (), ()])
        self.alike(bell.told, tuple(((at,), at + 100) for at in range(5)))
        self.refuses(Late, (10 ** 39,), bell.put, (10 ** 39,), 1)

    def test_a_time_is_rung_whether_there_were_values_or_not(self):
        bell = Bell(LINE, "a")
        self.alike([bell.ring(first_book(LINE, 2)), bell.open_times], [(), ((2,),)])
        for at in (0, 1):
            self.refuses(Late, (at,), bell.put, (at,), 1)
        self.alike([bell.put((2,), 1), bell.waiting, bell.told], [None, (((2,), 1),), ()])

    def test_books_that_do_not_come_of_each_other(self):
        """What was over by the one or by the other is rung."""
        crew = Crew(Plan("place a 2\nline a a +1 +1"), "hands 3\nwork 0 a 0 3\nwork 1 a 3 0")
        books = [took(crew, first_book(crew, number), point, ())[0] for number, point in crew.works]
        for one, other in (books, books[::-1]):
            bell = Bell(crew, "a")
            for time in ((2, 9), (9, 2), (5, 5), (0, 0)):
                bell.put(time, 1)
            told = bell.ring(one) + bell.ring(other)
            self.alike([sorted(told), bell.open_times, bell.waiting],
                       [[((0, 0), 1), ((2, 9), 1), ((9, 2), 1)], ((3, 3),), (((5, 5), 1),)])
            self.alike([bell.ring(one), bell.ring(first_book(crew, 2)), bell.open_times], [(), (), ((3, 3),)])

    def test_the_book_of_one_that_fell_back(self):
        first, telling = told_by(LINE, first_book(LINE, 0), ("a", (2,)), ())
        book = first_book(LINE, 1)
        bell = Bell(LINE, "a")
        bell.put((4,), 1)
        bell.ring(heard(LINE, book, 0, telling))
        self.alike([bell.open_times, bell.ring(book), bell.open_times], [((4,),), (), ((4,),)])
        self.refuses(Late, (3,), bell.put, (3,), 1)

    def test_a_copy_goes_its_own_way(self):
        book = first_book(LINE, 0)
        later, _ = took(LINE, book, ("a", (2,)), ())
        bell = Bell(LINE, "a")
        for at in (0, 2, 5):
            bell.put((at,), 1)
        bell.ring(book)
        other = bell.copy()
        self.assertIsInstance(other, Bell)
        self.alike(shown(other), shown(bell))
        before = shown(bell)
        other.put((2,), 4)
        self.alike(other.ring(later), (((2,), 5),))
        self.alike(shown(bell), before)
        self.alike(other.waiting, (((5,), 1),))
        after = shown(other)
        bell.put((9,), 9)
        self.alike([bell.ring(later), shown(other)], [(((2,), 1),), after])
        self.alike(Bell(LINE, "a").copy().open_times, ((0,),))

    def test_what_is_no_name_is_refused(self):
        for wrong in NO_NAMES:
            self.refuses(BadName, wrong, Bell, CREW, wrong)

    def test_what_cannot_be_put_is_refused_and_changes_nothing(self):
        bell, book = Bell(CREW, "b"), first_book(CREW, 0)
        book, _ = took(CREW, book, ("a", (0,)), ())
        bell.put((7, 7), 7)
        bell.ring(book)
        self.alike(bell.open_times, ((1, 1), (2, 0)))
        before = shown(bell)
        for wrong in NO_TIMES_AT_B:
            self.refuses(BadTime, wrong, bell.put, wrong, 1)
            self.refuses(BadTime, wrong, bell.put, wrong, None)
        for wrong in NEVER[:3] + NEVER[9:] + ((1,), "1", 1j):
            self.refuses(BadNumber, wrong, bell.put, (7, 7), wrong)
            self.refuses(BadNumber, wrong, bell.put, (0, 0), wrong)
        for time in ((0, 0), (0, 10 ** 39), (1, 0)):
            self.refuses(Late, time, bell.put, time, 1)
        self.alike(shown(bell), before)


class Joined(Case):

    def test_sums_of_all(self):
        self.alike([joined_rings(()), joined_rings(((), ())), joined_rings(rings=((((1,), 0),),))],
                   [(), (), (((1,), 0),)])
        self.alike(joined_rings(((((2, 1), 1), ((0, 9), 2)), (), (((2, 1), -1), ((2, 1), 5), ((2, 0), 0)))),
                   (((0, 9), 2), ((2, 0), 0), ((2, 1), 5)))

    def test_what_are_no_rings_is_refused(self):
        right = (((1,), 2),)
        self.alike(joined_rings((right,)), right)
        rows = (((1,), 2, 3), ((1,),), [(1,), 2], ((1,), True), ((1,), None), ((1,), "2"), (1, 2), ((True,), 2),
                ([1], 2), ((-1,), 2), ((), 2), ((0,) * 5, 2), ((1,), (2,)), (2, (1,)), (), (((1,), 2),), 0, "ab", None)
        wrongs = [(right, (row,)) for row in rows] + [((row,),) for row in rows] + [
            right, [right], (right, None), (list(right),), (right, (((1, 1), 2),)), ({(1,): 2},), ("",), (0,), "", {}]
        for wrong in list(NEVER) + wrongs:
            self.refuses(BadRings, wrong, joined_rings, wrong)
