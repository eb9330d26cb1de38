"""The whole program: what its parts tell of one script is the same (sections 2 and 3)."""

import collections

from keeping import Keeper, row_text
from support import Case, Picks, all_ways, enough_lines, put_soon, some_plans, some_works, sound_plans
from timesover.aside import counts_front
from timesover.bells import Bell, due_times, joined_rings
from timesover.books import beat, first_book, front, heard, over, took
from timesover.crews import Crew, counts_behind
from timesover.cuts import (
    cut_front, cut_lacks, cut_numbers, fewest_more, sharp_front, surely_gone, whole_cuts, works_behind,
)
from timesover.desk import Desk, desk_text, read_desk
from timesover.fronts import fronts_of, is_over, least_works
from timesover.journals import journal, read_journal
from timesover.logs import Log, first_true, is_lacking, judged_log, log_counts, log_lags, log_works, shows_judged_log
from timesover.plans import Plan
from timesover.relays import Net
from timesover.rules import Rule, rule_safe, tellings_of
from timesover.shifts import shifted
from timesover.sound import soundness
from timesover.straight import needless_lines, straight_plan, thinned_plan
from timesover.times import least_times
from timesover.ways import way_shift
from timesover.yards import Yard
from worlds import some_crew


class Script:
    """One script, done with books, in a yard, by the rows of a log, as a history, and with bells."""

    def __init__(self, case, picks, crew):
        self.case = case
        self.picks = picks
        self.crew = crew
        self.places = [place for place, _ in crew.plan.places]
        self.books = [first_book(crew, hand) for hand in range(crew.hands)]
        self.yard = Yard(crew)
        self.rows = []
        self.deeds = []
        # For each hand its tellings, how many of each other hand's it has heard, how many its own deeds are.
        self.told = [[] for _ in self.books]
        self.heard = [[0] * crew.hands for _ in self.books]
        self.bells = [{place: Bell(crew, place) for place in self.places} for _ in self.books]
        self.values = {place: collections.Counter() for place in self.places}

    def deed(self, hand, taken):
        """The hand takes a work that it holds, puts others, and tells it."""
        put = [put_soon(self.picks, self.crew.plan, taken) for _ in range(self.picks.randint(0, 2))]
        pairs = tuple((self.picks.randrange(self.crew.hands), point) for point in put if point is not None)
        points = tuple(sorted(point for _, point in pairs))
        value = self.picks.randint(-5, 5)
        self.bells[hand][taken[0]].put(taken[1], value)
        self.values[taken[0]][taken[1]] += value
        self.books[hand], now = took(self.crew, self.books[hand], taken, points)
        self.books[hand], late = beat(self.crew, self.books[hand])
        self.told[hand] += [telling for telling in (now, late) if telling is not None]
        self.heard[hand][hand] += 1
        self.yard.deed(hand, taken, pairs)
        self.yard.beat(hand)
        self.rows += [("deed", hand, taken, points), ("told", hand)]
        self.deeds.append((hand, taken, points))

    def hear(self, hand, other):
        """The hand hears the next telling of the other one, if there is one."""
        self.yard.hear(hand, other)
        many = self.heard[hand][other]
        if many < len(self.told[other]):
            self.books[hand] = heard(self.crew, self.books[hand], other, self.told[other][many])
            self.heard[hand][other] += 1
            self.rows.append(("hear", hand, other))

    def do(self):
        """One step by a rule."""
        hand = self.picks.randrange(self.crew.hands)
        kind = self.picks.choice(("deed", "deed", "arrive", "give", "hear", "hear", "ring", "say"))
        mine = [point for holder, point in self.yard.works if holder == hand]
        if kind == "deed" and mine:
            self.deed(hand, self.picks.choice(mine))
        elif kind == "arrive" and self.yard.letters:
            self.yard.arrive(*self.picks.choice(self.yard.letters))
        elif kind == "give" and mine:
            self.yard.give(hand, self.picks.choice(mine), (hand + 1) % self.crew.hands)
        elif kind == "hear":
            self.hear(hand, self.picks.choice([other for other in range(self.crew.hands) if other != hand]))
        elif kind == "ring":
            place = self.picks.choice(self.places)
            self.bells[hand][place].ring(self.books[hand])
        elif kind == "say":
            self.say(hand, *self.picks.choice(self.crew.plan.places))

    def say(self, hand, place, depth):
        """What the book says of a time is what the yard, and due_times, say."""
        time = tuple(self.picks.randrange(5) for _ in range(depth))
        told = over(self.crew, self.books[hand], place, time)
        self.case.alike(self.yard.over(hand, place, time), told)
        self.case.alike(due_times(self.crew, self.books[hand], place, (time,)), (time,) * told)
        self.rows.append(("over" if told else "open", hand, place, time))

    def finish(self):
        """All is heard, and all bells are rung."""
        for hand in range(self.crew.hands):
            for other in range(self.crew.hands):
                while hand != other and self.heard[hand][other] < len(self.told[other]):
                    self.hear(hand, other)
        for hand in range(self.crew.hands):
            for bell in self.bells[hand].values():
                bell.ring(self.books[hand])

    def check(self):
        """Counts, works and fronts are the same, by whichever part of the program they are told."""
        case, crew, deeds = self.case, self.crew, tuple(self.deeds)
        # Behind a row at least, as a log has one.
        log = Log(crew, "\n".join(map(row_text, self.rows or [("open", 0, *crew.works[0][1])])))
        works = tuple(sorted(point for _, point in self.yard.works + self.yard.letters))
        case.alike(log_works(log, len(log)), works)
        case.alike(tuple(point for point, many in works_behind(crew, deeds) for _ in range(many)), works)
        true_fronts = fronts_of(crew.plan, works)
        case.alike(tuple(self.yard.true_front(place) for place in self.places), true_fronts)
        for hand, book in enumerate(self.books):
            cut = tuple(self.heard[hand])
            counts = cut_numbers(crew, deeds, cut)
            known = [deed[1:] for other, many in enumerate(cut)
                     for deed in [far for far in deeds if far[0] == other][:many]]
            case.alike(counts_behind(crew, tuple(known)), counts)
            case.alike([self.yard.counts(hand), log_counts(log, len(log), hand)], [counts] * 2)
            lacks = len(cut_lacks(crew, deeds, cut)) > 0
            case.alike([is_lacking(log, len(log), hand), len(self.yard.lacks(hand)) > 0], [lacks] * 2)
            for place in self.places:
                told = front(crew, book, place)
                case.alike(self.yard.front(hand, place), told)
                by_counts = cut_front(crew, deeds, cut, place)
                case.alike(counts_front(crew.plan, counts, place), by_counts)
                if not lacks:
                    case.alike([told, sharp_front(crew, deeds, cut, place)], [by_counts] * 2)
        case.alike(judged_log(log), ("fine",))
        return log


class OneScript(Case):

    def test_told_by_all_parts(self):
        for at, plan in enumerate(sound_plans(210, 30)):
            picks = Picks(211 + at)
            crew = some_crew(picks, plan)
            if not crew.works:
                continue
            script = Script(self, picks, crew)
            for number in range(60):
                script.do()
                if number % 6 == 0:
                    script.check()
            script.finish()
            log = script.check()
            self.check_end(script, log)

    def check_end(self, script, log):
        """When all is heard, all fronts are the true ones, and the bells add up to what was put where all is over."""
        crew, deeds = script.crew, tuple(script.deeds)
        works = log_works(log, len(log))
        for place, wanted in zip(script.places, fronts_of(crew.plan, works)):
            for hand, book in enumerate(script.books):
                self.alike(front(crew, book, place), wanted)
                self.alike(cut_front(crew, deeds, tuple(script.heard[hand]), place), wanted)
            rung = dict(joined_rings(tuple(bells[place].told for bells in script.bells)))
            for time, value in script.values[place].items():
                if is_over(crew.plan, works, place, time):
                    self.alike(rung[time], value)
                    self.assertLessEqual(first_true(log, place, time), len(log))
        again = read_journal(journal(script.yard))
        self.alike([again.works, again.letters, again.steps],
                   [script.yard.works, script.yard.letters, script.yard.steps])


class Roads(Case):

    def test_fronts_by_tables_by_ways_by_least_works_by_straight_lines(self):
        picks = Picks(220)
        for plan in some_plans(220, 60, most_lines=3):
            works = some_works(picks, plan, 4)
            fronts = fronts_of(plan, works)
            self.alike(fronts_of(plan, least_works(plan, works)), fronts)
            self.alike(fronts_of(thinned_plan(plan), works), fronts)
            self.alike(fronts_of(straight_plan(plan, tuple(place for place, _ in plan.places)), works), fronts)
            for (place, _), told in zip(plan.places, fronts):
                times = [shifted(way_shift(plan, work[0], way), work[1]) for work in works
                         for way, end in all_ways(plan, work[0], enough_lines(plan)) if end == place]
                self.alike(told, least_times(tuple(times)))


class ThereAndBack(Case):

    def test_texts(self):
        for at, plan in enumerate(sound_plans(221, 20)):
            keeper = Keeper(Picks(222 + at), some_crew(Picks(at), plan))
            keeper.keep(20)
            crew = keeper.crew
            log = Log(crew, keeper.text())
            self.assertTrue(Plan(plan.text) == plan and Crew(Plan(plan.text), crew.text) == crew)
            self.assertTrue(Log(Crew(Plan(plan.text), crew.text), log.text) == log)
            self.alike("\n".join(map(row_text, log.rows)), log.text)

    def test_a_desk_that_goes_back_and_on(self):
        desk = Desk()
        rows = ["place a 1", "line a a +1", "hands 2", "work 0 a 0", "deed 0 a 0 : 1 a 3", "beat 0", "hear 1 0",
                "arrive 1 a 3"]
        desk.begin("a", "\n".join(rows))
        desk.mark("a", "end")
        before = desk_text(desk)
        for many in (1, 3, 4):
            for _ in range(many):
                desk.undo("a")
            desk.back("a", "end")
            self.alike([desk_text(desk), desk_text(read_desk(before))], [before] * 2)


class Equal(Case):

    def test_texts_and_what_they_belong_to_and_nothing_else(self):
        rows = []
        for _ in range(2):
            plans = [Plan("place a 1"), Plan("place a 2"), Plan("place a 1\nplace b 1")]
            crews = [Crew(plan, text) for plan in plans for text in ("hands 2", "hands 3")]
            words = "net {}\nminus a now\nstay a now{}"
            rules = [Rule(plan, words.format(net, "\nminus b now\nstay b now" * (len(plan) - 1)))
                     for plan in plans for net in ("free", "ordered")]
            logs = [Log(crew, f"{word} 0 a" + " 0" * crew.plan.places[0][1])
                    for crew in crews for word in ("over", "open")]
            rows.append(plans + crews + rules + logs)
        strangers = [None, 0, "place a 1", "hands 2", (rows[0][0],), [rows[0][0]], Net(()), Yard(rows[0][3]), Desk()]
        for at, one in enumerate(rows[0]):
            for far, other in enumerate(rows[1] + strangers):
                self.assertIs(one == other, at == far)
                self.assertIs(other == one, at == far)
                self.assertIs(one != other, at != far)

    def test_equal_calls_with_equal_objects_return_equal_results(self):
        for at, plan in enumerate(sound_plans(223, 20)):
            keeper = Keeper(Picks(224 + at), some_crew(Picks(300 + at), plan))
            keeper.keep(25)
            rows = []
            for _ in range(2):
                crew = Crew(Plan(plan.text), keeper.crew.text)
                rows.append(self.told(crew, keeper))
            self.alike(*rows)

    def told(self, crew, keeper):
        """What many functions tell of equal objects."""
        plan = crew.plan
        log = Log(crew, keeper.text())
        deeds = tuple(row[1:] for row in keeper.rows if row[0] == "deed")
        cut = tuple(len([deed for deed in deeds if deed[0] == hand]) // 2 for hand in range(crew.hands))
        yard = Yard(crew)
        for hand, point in yard.works[:2]:
            yard.deed(hand, point, ((1 - hand % 2, (point[0], (point[1][0] + 1, *point[1][1:]))),))
            yard.settle()
        net = Net(((0, 1), (1, 2)))
        return [log.rows, judged_log(log), log_lags(log), log_works(log, len(log)), works_behind(crew, deeds),
                cut_numbers(crew, deeds, cut), surely_gone(crew, deeds, cut), journal(yard), yard.works,
                yard.unheard(1), [yard.copy().front(hand, plan.places[0][0]) for hand in yard.hands],
                needless_lines(plan), thinned_plan(plan).text, soundness(plan), net.tell(1), net.carry(1, 2),
                net.heard(2), fewest_more(crew, deeds[:6], (0,) * crew.hands), whole_cuts(crew, deeds[:6])]

    def test_what_is_asked_changes_nothing(self):
        crew = Crew(Plan("place a 1\nline a a +1"), "hands 2\nwork 0 a 0")
        yard = Yard(crew)
        yard.deed(0, ("a", (0,)), ((1, ("a", (3,))),))
        before = journal(yard), yard.works, yard.letters, yard.hands
        read_journal(journal(yard)).settle()
        yard.copy().settle()
        self.alike((journal(yard), yard.works, yard.letters, yard.hands), before)
        log = Log(crew, "deed 0 a 0 put a 3\nover 1 a 5\nopen 1 a 9")
        for _ in range(2):
            self.alike(judged_log(log), ("unsafe", 1, ("a", (3,)), ()))
            self.alike(shows_judged_log(log, judged_log(log)), True)
            self.alike([log.rows[0], log_lags(log)], [("deed", 0, ("a", (0,)), (("a", (3,)),)), ()])
        rule = Rule(crew.plan, "net free\nminus a now\nstay a now\nplus 0 now")
        script = ((0, ("a", (0,)), ((("a", (1,)), 0),)),)
        self.alike([tellings_of(rule, crew, script), rule_safe(rule)], [tellings_of(rule, crew, script), ("safe",)])
