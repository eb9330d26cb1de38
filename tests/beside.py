"""A yard that is played beside a world: each step is done in both, and they are compared behind it."""

import contextlib

from timesover.errors import OverError
from timesover.yards import Yard
from worlds import ALL_KINDS, World, do_step

MORE_KINDS = ("catch_up", "settle", "hear nothing", "hear nothing", "fall")


class Beside(World):
    """A world, and a yard in which the same is done."""

    def __init__(self, case, crew):
        World.__init__(self, case, crew)
        self.yard = Yard(crew)
        self.steps = []
        self.check()

    def play(self, *step):
        """Does the step in the yard, by step or by the method, in turn."""
        if len(self.steps) % 2:
            told = self.yard.step(step)
        else:
            told = getattr(self.yard, step[0])(*step[1:])
        self.case.assertIsNone(told)
        self.steps.append(step)
        self.check()

    def deed(self, number, taken, put):
        World.deed(self, number, taken, put)
        self.play("deed", number, taken, tuple(put))

    def beat(self, number):
        World.beat(self, number)
        self.play("beat", number)

    def give(self, number, point, other):
        World.give(self, number, point, other)
        self.play("give", number, point, other)

    def arrive(self, letter):
        World.arrive(self, letter)
        self.play("arrive", *letter)

    def hear(self, number, other):
        if (number, other) in self.open_ears():
            World.hear(self, number, other)
        self.play("hear", number, other)

    def again(self, number, other, at):
        World.again(self, number, other, at)
        self.play("again", number, other, at)

    def come(self, number, new):
        World.beat(self, number)
        World.come(self, number, new)
        self.play("come", number, new)

    def fall(self, number, at=0):
        World.fall(self, number, 0)
        self.play("fall", number)

    def go(self, number):
        World.beat(self, number)
        if not self.hands[number].is_quiet:
            self.seen["goes with what is not told"] += 1
            World.beat(self, number)
        World.go(self, number)
        self.play("go", number)

    def catch_up(self, number):
        """The hand hears all that it has not heard."""
        self.hear_all(number)
        self.play("catch_up", number)

    def settle(self):
        """All beat, and all catch up; letters stay under way."""
        for number in sorted(self.hands):
            World.beat(self, number)
        for number in sorted(self.hands):
            self.hear_all(number)
        self.play("settle")
        for number in self.hands:
            self.case.alike(self.yard.unheard(number), ())
            self.case.alike(self.yard.lacks(number), ())
            for place, _ in self.plan.places:
                self.case.alike(self.yard.front(number, place), self.yard.true_front(place))

    def hear_all(self, number):
        """The hand hears all that it has not heard, in the world alone."""
        for hand, other in self.open_ears():
            while hand == number and self.hands[hand].heard.get(other, 0) < len(self.tellings[other]):
                World.hear(self, hand, other)

    def unheard(self, number):
        """The deeds that the hand has not heard."""
        rows = []
        for other, tellings in self.tellings.items():
            if other != number:
                deeds = [deed for _, told in tellings[self.hands[number].heard.get(other, 0):] for deed in told]
                deeds += self.hands[other].untold if other in self.hands else []
                rows += [(other, taken, put) for taken, put in deeds]
        return tuple(sorted(rows))

    def check(self):
        """All that the yard shows is what the world tells."""
        case, yard = self.case, self.yard
        case.alike(yard.crew, self.crew)
        case.alike(yard.hands, tuple(sorted(self.hands)))
        case.alike(yard.works, tuple(sorted((number, point) for number, hand in self.hands.items()
                                            for point in hand.works)))
        case.alike(yard.letters, tuple(sorted(self.letters)))
        case.alike(yard.steps, tuple(self.steps))
        case.alike(len(yard), len(self.steps))
        true_fronts = [yard.true_front(place) for place, _ in self.plan.places]
        case.alike(true_fronts, self.fronts_by(self.works()))
        for number in self.hands:
            counts = tuple(sorted((point, count) for point, count in self.counts(number).items() if count))
            lacks = tuple(row for row in counts if row[1] < 0)
            case.alike([yard.counts(number), yard.lacks(number)], [counts, lacks])
            case.alike(yard.unheard(number), self.unheard(number))
            fronts = [yard.front(number, place) for place, _ in self.plan.places]
            case.alike(fronts, self.fronts[number])
            self.check_covered(fronts, true_fronts)
            if not lacks:
                case.alike(fronts, self.fronts_by([point for point, count in counts if count > 0]))

    def check_over(self, number, place, time):
        World.check_over(self, number, place, time)
        at = [name for name, _ in self.plan.places].index(place)
        wanted = not [far for far in self.fronts[number][at] if all(a <= b for a, b in zip(far, time))]
        self.case.assertIs(self.yard.over(number, place, time), wanted)


def shown(yard):
    """All that a yard shows."""
    places = [place for place, _ in yard.crew.plan.places]
    return (yard.crew, yard.hands, yard.works, yard.letters, yard.steps, len(yard),
            [yard.true_front(place) for place in places],
            [(yard.counts(hand), yard.lacks(hand), yard.unheard(hand), [yard.front(hand, place) for place in places])
             for hand in yard.hands])


def do_any_step(world, picks):
    """One step by a rule, of any kind that yards have."""
    if picks.randrange(8):
        do_step(world, picks, ALL_KINDS)
    else:
        do_more(world, picks, picks.choice(MORE_KINDS))


def do_more(world, picks, kind):
    """One step of a kind that worlds without a yard do not have."""
    number = picks.choice(sorted(world.hands))
    if kind == "settle":
        world.settle()
    elif kind == "catch_up":
        world.catch_up(number)
    elif kind == "fall":
        world.fall(number)
    else:
        others = [other for other in world.tellings if other != number and (number, other) not in world.open_ears()]
        if not others:
            return
        world.hear(number, picks.choice(others))
    world.seen[kind] += 1


def played_yard(picks, crew, many):
    """A yard of the crew in which so many steps by a rule were done, without a world beside it."""
    yard = Yard(crew)
    while len(yard) < many:
        with contextlib.suppress(OverError):
            yard.step(likely_step(picks, yard))
    return yard


def likely_step(picks, yard):
    """A step that can often be done: of a hand that is there mostly, with a work that it holds mostly."""
    hand, other = picks.choice(yard.hands or (0,)), picks.randrange(10)
    holder, point = picks.choice(yard.works or ((hand, ("a", (0,))),))
    to, letter = picks.choice(yard.letters or ((hand, point),))
    later = (point[0], point[1][:-1] + (point[1][-1] + picks.randint(1, 3),))
    put = tuple((picks.choice(yard.hands or (0,)), later) for _ in range(picks.randrange(3)))
    return picks.choice((
        ("deed", holder, point, put), ("deed", holder, point, put), ("give", holder, point, hand), ("beat", hand),
        ("arrive", to, letter), ("arrive", to, letter), ("hear", hand, other), ("hear", hand, picks.choice((0, 1))),
        ("again", hand, picks.choice((0, 1)), picks.randrange(2)), ("catch_up", hand), ("come", hand, other),
        ("fall", hand), ("go", hand) if picks.randrange(4) == 0 else ("fall", hand), ("settle",),
    ))
