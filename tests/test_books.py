"""Books (section 10), and what section 3 guarantees of them."""

import collections

from support import NEVER, NO_NAMES, NO_POINTS, NO_TIMES_AT_B, Case, Picks, sound_plans
from timesover.books import beat, come, first_book, front, heard, over, took
from timesover.crews import Crew
from timesover.errors import BadHand, BadName, BadPoint, BadPut, BadTime
from timesover.plans import Plan
from worlds import ALL_KINDS, KINDS, World, do_step, many_parts, some_crew, told_by

ROWS = ["place a 1", "place b 2", "place c 1", "line a b +0 =0", "line b b +0 +1", "line b c +0", "line c a +1"]
PLAN = Plan("\n".join(ROWS))
CREW = Crew(PLAN, "hands 3\nwork 0 a 0\nwork 2 b 1 1")
NO_HANDS = NEVER[:3] + NEVER[7:] + ((), (0,), [0], -1, "0")


def worlds(case, seed, many, **limits):
    """Worlds of crews by a rule, each with the picks of its script."""
    picks = Picks(seed)
    plans = sound_plans(seed, many, **limits) + [PLAN] * (many // 8)
    return [(World(case, some_crew(picks, plan)), Picks(seed * 1000 + at)) for at, plan in enumerate(plans)]


def all_fronts(crew, book):
    """The fronts of all places by a book."""
    return [front(crew, book, place) for place, _ in crew.plan.places]


class Scripts(Case):

    def test_a_to_d_behind_each_step(self):
        seen = collections.Counter()
        for world, picks in worlds(self, 60, 120, most_lines=5):
            for _ in range(picks.choice((20, 60, 120))):
                do_step(world, picks, ALL_KINDS)
            world.settle()
            seen += world.seen
        for kind in set(ALL_KINDS) | {"lacking", "exact", "elder again", "hears anew", "beside a newcomer"}:
            self.assertGreater(seen[kind], 10, kind)

    def test_hands_that_hear_late(self):
        seen = collections.Counter()
        for world, picks in worlds(self, 61, 60, most_lines=5):
            for _ in range(8):
                for _ in range(20):
                    do_step(world, picks, ("deed", "deed", "arrive", "give", "beat"))
                for _ in range(12):
                    do_step(world, picks, ("hear", "hear", "again", "fall"))
            world.settle()
            seen += world.seen
        self.assertGreater(seen["lacking"], 500)

    def test_deep_plans(self):
        for world, picks in worlds(self, 62, 16, most_places=6, most_depth=4, most_lines=9):
            for _ in range(60):
                do_step(world, picks, ALL_KINDS)
            world.settle()

    def test_nothing_grows_with_the_history(self):
        crew = Crew(Plan("place a 1\nplace b 1\nline a b +0\nline b a +1"), "hands 3\nwork 0 a 0\nwork 1 b 0")
        world, picks = World(self, crew), Picks(63)
        for at in range(300):
            holders = [number for number, hand in world.hands.items() if hand.works]
            number = picks.choice(holders)
            place, (time,) = world.hands[number].works[0]
            put = ("b", (time,)) if place == "a" else ("a", (time + 1,))
            world.deed(number, (place, (time,)), [(picks.randrange(3), put)])
            for letter in list(world.letters):
                world.arrive(letter)
            for _ in range(6):
                do_step(world, picks, ("beat", "hear", "hear", "hear", "again", "fall"))
            if at in (50, 150, 299):
                world.settle()
        self.alike([world.many_deeds, len(world.works())], [300, 2])

    def test_what_all_have_heard_takes_no_room(self):
        crew = Crew(Plan("place a 1\nline a a +1"), "hands 3\nwork 0 a 0")
        books = [first_book(crew, number) for number in range(3)]
        for at in range(1900):
            books[at % 3], telling = told_by(crew, books[at % 3], ("a", (at,)), (("a", (at + 1,)),))
            self.assertLessEqual(many_parts(telling), 40 * (1 + 2 + 1 + 3 + 8))
            for number in (at + 1) % 3, (at + 2) % 3:
                books[number] = heard(crew, books[number], at % 3, telling)
            for book in books:
                self.assertLessEqual(many_parts(book), 40 * (1 + 0 + 1 + 3 + 8))
        self.alike([front(crew, book, "a") for book in books], [((1900,),)] * 3)

    def test_one_that_hears_nothing_and_one_that_hears_all(self):
        crew = Crew(PLAN, "hands 3\nwork 0 a 0")
        world = World(self, crew)
        for at in range(60):
            world.deed(0, ("a", (at,)), [(0, ("b", (at, 0)))])
            world.deed(0, ("b", (at, 0)), [(0, ("b", (at, 1)))])
            world.deed(0, ("b", (at, 1)), [(0, ("c", (at,)))])
            world.deed(0, ("c", (at,)), [(0, ("a", (at + 1,)))])
            world.beat(0)
            while (1, 0) in world.open_ears():
                world.hear(1, 0)
            world.check_all()
        self.alike(all_fronts(crew, world.hands[1].book), [((60,),), ((60, 0),), ((60,),)])
        self.alike(all_fronts(crew, world.hands[2].book), [((0,),), ((0, 0),), ((0,),)])
        world.settle()
        self.alike(all_fronts(crew, world.hands[2].book), [((60,),), ((60, 0),), ((60,),)])


class Futures(Case):

    def test_two_futures_of_one_world_led_on_by_turns(self):
        for world, picks in worlds(self, 64, 30):
            for _ in range(30):
                do_step(world, picks, ALL_KINDS)
            other = world.twin()
            books = {number: hand.book for number, hand in world.hands.items()}
            one_picks, other_picks = Picks(picks.randrange(1000)), Picks(picks.randrange(1000) + 1000)
            for _ in range(40):
                do_step(world, one_picks, ALL_KINDS)
                do_step(other, other_picks, ALL_KINDS)
            fronts = {number: all_fronts(world.crew, book) for number, book in books.items()}
            world.settle()
            other.settle()
            for number, book in books.items():
                self.alike(all_fronts(world.crew, book), fronts[number])

    def test_the_same_script_leads_to_the_same_books(self):
        for (one, picks), (other, far) in zip(worlds(self, 65, 12), worlds(self, 65, 12)):
            for _ in range(40):
                do_step(one, picks, KINDS)
                do_step(other, far, KINDS)
            for number, hand in one.hands.items():
                self.alike(hand.book, other.hands[number].book)


class Cases(Case):

    def test_the_beginning(self):
        for number in range(3):
            book = first_book(CREW, number)
            self.alike(all_fronts(CREW, book), [((0,),), ((0, 0),), ((0,),)])
        crew = Crew(PLAN, "hands 6")
        self.alike(all_fronts(crew, first_book(hand=5, crew=crew)), [(), (), ()])
        self.alike(over(crew, first_book(crew, 0), "b", (0, 0)), True)

    def test_a_front_goes_on_with_the_deeds_of_its_hand(self):
        book, _ = took(CREW, first_book(CREW, 0), ("a", (0,)), (("b", (2, 0)), ("b", (3, 4))))
        self.alike(all_fronts(CREW, book), [((2,),), ((1, 1), (2, 0)), ((1,),)])
        self.alike(front(place="b", book=book, crew=CREW), ((1, 1), (2, 0)))
        self.alike([over(CREW, book, "b", (1, 0)), over(CREW, book, "b", (1, 1)),
                    over(time=(9, 0), place="b", book=book, crew=CREW)], [True, False, False])
        told = took(put=(), taken=("b", (1, 1)), book=book, crew=CREW)
        self.alike(all_fronts(CREW, told[0]), [((3,),), ((2, 0),), ((2,),)])

    def test_beats_that_have_nothing_to_tell(self):
        book = first_book(CREW, 1)
        for _ in range(3):
            book, telling = beat(book=book, crew=CREW)
            self.alike(telling, None)
        book, _ = told_by(CREW, first_book(CREW, 0), ("a", (0,)), ())
        book, telling = beat(CREW, book)
        self.alike([telling, front(CREW, book, "a")], [None, ((2,),)])

    def test_heard_crosswise(self):
        """Hand 2 hears that a work was taken ahead of hearing that it was put."""
        first, one = told_by(CREW, first_book(CREW, 0), ("a", (0,)), (("b", (0, 5)),))
        second, two = told_by(CREW, first_book(CREW, 1), ("b", (0, 5)), (("c", (3,)),))
        third = first_book(CREW, 2)
        crosswise = (1, two), (0, one)
        for tellings in (crosswise, crosswise[::-1], crosswise[:1] + crosswise * 2):
            book = third
            for at, (hand, telling) in enumerate(tellings):
                book = heard(CREW, book, hand, telling)
                self.alike(over(CREW, book, "c", (0,)), {(0, one), (1, two)} <= set(tellings[:at + 1]))
            self.alike(all_fronts(CREW, book), [((2,),), ((1, 1), (2, 0)), ((1,),)])
        book = heard(telling=one, hand=0, book=second, crew=CREW)
        self.alike(all_fronts(CREW, book), all_fronts(CREW, heard(CREW, first, 1, two)))

    def test_what_lacks_is_not_forgotten(self):
        crew = Crew(Plan("place a 1\nplace b 1\nline a b +1"), "hands 3\nwork 0 a 0")
        first, one = told_by(crew, first_book(crew, 0), ("a", (0,)), (("a", (1,)), ("b", (1,)), ("b", (1,))))
        second, two = told_by(crew, first_book(crew, 1), ("b", (1,)), ())
        second, three = told_by(crew, second, ("b", (1,)), ())
        third = first_book(crew, 2)
        for telling in (two, three):
            third = heard(crew, third, 1, telling)
            self.alike(front(crew, third, "b"), ((1,),))
        third = heard(crew, third, 0, one)
        self.alike(all_fronts(crew, third), [((1,),), ((2,),)])

    def test_elder_tellings_amid_later_ones(self):
        book, tellings = first_book(CREW, 0), []
        for at in range(5):
            book, telling = told_by(CREW, book, ("a", (at,)), (("a", (at + 1,)),))
            tellings.append(telling)
        other = first_book(CREW, 1)
        for at, telling in enumerate(tellings):
            other = heard(CREW, other, 0, telling)
            for elder in tellings[:at + 1] + tellings[at::-1]:
                other = heard(CREW, other, 0, elder)
                self.alike(front(CREW, other, "a"), ((min(2, at + 1),),))
        self.alike(all_fronts(CREW, other), all_fronts(CREW, book))

    def test_a_newcomer_hears_what_the_one_beside_it_had_not_heard(self):
        first, one = told_by(CREW, first_book(CREW, 0), ("a", (0,)), (("a", (4,)),))
        second, two = told_by(CREW, first_book(CREW, 1), ("a", (4,)), (("a", (5,)),))
        third, three = told_by(CREW, first_book(CREW, 2), ("b", (1, 1)), (("b", (7, 7)),))
        second = heard(CREW, second, 2, three)
        new = come(CREW, second, 9)
        newer = come(hand=7, book=new, crew=CREW)
        for book in (new, newer):
            # What the hand beside it had told, or heard, is known to it, and can be heard again.
            self.alike(front(CREW, book, "a"), front(CREW, second, "a"))
            for hand, telling in ((1, two), (2, three), (0, one), (1, two), (0, one)):
                book = heard(CREW, book, hand, telling)
            self.alike(all_fronts(CREW, book), [((5,),), ((5, 0),), ((5,),)])
        newer, four = told_by(CREW, newer, ("a", (5,)), ())
        new = heard(CREW, heard(CREW, new, 0, one), 7, four)
        first = heard(CREW, heard(CREW, heard(CREW, first, 7, four), 1, two), 2, three)
        for book in (new, first, heard(CREW, newer, 0, one)):
            self.alike(all_fronts(CREW, book), [((8,),), ((7, 7), (8, 0)), ((7,),)])

    def test_one_that_falls_hears_anew(self):
        first, one = told_by(CREW, first_book(CREW, 0), ("a", (0,)), (("a", (4,)),))
        first, two = told_by(CREW, first, ("a", (4,)), (("a", (6,)),))
        second, _ = told_by(CREW, heard(CREW, first_book(CREW, 2), 0, one), ("b", (1, 1)), ())
        for _ in range(3):
            book = heard(CREW, heard(CREW, second, 0, one), 0, two)
            self.alike(all_fronts(CREW, book), [((6,),), ((6, 0),), ((6,),)])

    def test_twelve_works_at_one_point(self):
        crew = Crew(Plan("place a 1\nline a a +1"), "hands 2\nwork 0 a 0")
        book, telling = told_by(crew, first_book(crew, 0), ("a", (0,)), (("a", (1,)),) * 12)
        other = heard(crew, first_book(crew, 1), 0, telling)
        for at in range(12):
            self.alike([front(crew, book, "a"), front(crew, other, "a")], [((1,),)] * 2)
            book, telling = told_by(crew, book, ("a", (1,)), ())
            other = heard(crew, other, 0, telling)
        self.alike([front(crew, book, "a"), front(crew, other, "a")], [(), ()])


class Errors(Case):

    def test_what_is_no_hand_is_refused(self):
        book = first_book(CREW, 0)
        _, telling = told_by(CREW, book, ("a", (0,)), ())
        for wrong in NO_HANDS + (3, 4, 5, 9, 10):
            self.refuses(BadHand, wrong, first_book, CREW, wrong)
        for wrong in NO_HANDS + (10, 11, 10 ** 39):
            self.refuses(BadHand, wrong, heard, CREW, book, wrong, telling)
            self.refuses(BadHand, wrong, come, CREW, book, wrong)
        self.alike(all_fronts(CREW, come(CREW, book, 9)), all_fronts(CREW, book))

    def test_what_is_no_deed_is_refused(self):
        book = first_book(CREW, 2)
        for wrong in NO_POINTS:
            self.refuses(BadPoint, wrong, took, CREW, book, wrong, ())
            self.refuses(BadPoint, wrong, took, CREW, book, wrong, wrong)
        for wrong in NEVER + ((("b", (1, 1)),), (("b", (1, True)),), [("b", (1, 2))], (("c", (0,)),),
                              (("c", (1,)), ("b", (1, 2))), (("b", (1, 2)),) * 13, (("b", (1, 2)), None)):
            self.refuses(BadPut, wrong, took, CREW, book, ("b", (1, 1)), wrong)

    def test_what_is_no_name_or_no_time_of_the_place_is_refused(self):
        book = first_book(CREW, 1)
        for wrong in NO_NAMES:
            self.refuses(BadName, wrong, front, CREW, book, wrong)
            self.refuses(BadName, wrong, over, CREW, book, wrong, (0,))
            self.refuses(BadName, wrong, over, CREW, book, wrong, None)
        for wrong in NO_TIMES_AT_B:
            self.refuses(BadTime, wrong, over, CREW, book, "b", wrong)
