"""Rules of telling (section 12)."""

import collections
import itertools

from support import FULL, NEVER, WIDE, Case, Picks, points_of, some_works, sound_plans
from timesover.crews import Crew
from timesover.errors import BadHand, BadHeard, BadNet, BadRule, BadScript, NotSound, OtherPlan, TooMany
from timesover.plans import Plan, can_put, lines_putting
from timesover.rules import (
    Rule, count_safe, counts_for, rule_safe, shows_rule_safe, tellings_of, unsafe_script, wrongly_over,
)
from timesover.shifts import shifted
from timesover.sound import shows_soundness
from timesover.tables import could_come

PLAN = Plan("place a 1\nplace b 2\nline a b +0 =0\nline b b +0 +1\nline b a +1")
RINGED = Plan("place a 1\nplace b 2\nline a b +0 =0\nline b a +0")
ROWS = ["net ordered", "minus a late", "minus b now", "stay a apart", "stay b now", "plus 0 late", "plus 1 apart",
        "plus 2 now"]
WORDS = ("now", "apart", "late")
A, B = ("a", (0,)), ("b", (0, 0))


def some_rule(picks, plan, net, words=WORDS):
    """A rule by a rule: its lines in any sequence."""
    rows = [f"{kind} {place}" for kind in ("minus", "stay") for place, _ in plan.places]
    rows = [f"{row} {picks.choice(words)}" for row in rows + [f"plus {at}" for at in range(len(plan.lines))]]
    for at in range(len(rows)):
        far = picks.randrange(len(rows))
        rows[at], rows[far] = rows[far], rows[at]
    return Rule(plan, "\n".join([f"net {net}"] + rows))


def some_safe_rule(picks, plan, net):
    """A rule that the condition of the document calls safe."""
    rows = [f"net {net}"]
    for place, _ in plan.places:
        minus = picks.randrange(3)
        row = [f"stay {place}"] + [f"plus {at}" for at, line in enumerate(plan.lines) if line[0] == place]
        rows.append(f"minus {place} {WORDS[minus]}")
        rows += [f"{begin} {WORDS[minus if net == 'free' else picks.randint(0, minus)]}" for begin in row]
    return Rule(plan, "\n".join(rows))


def words_of(rule):
    """The word of a rule for each begin of its lines."""
    return dict(row.rsplit(" ", 1) for row in rule.text.split("\n"))


def are_apart(rule, place, by):
    """Whether the two words of a deed are such that the rule is not safe."""
    words = words_of(rule)
    minus, plus = words[f"minus {place}"], words[f"stay {place}" if by is None else f"plus {by}"]
    return WORDS.index(minus) < WORDS.index(plus) if words["net"] == "ordered" else minus != plus


def puts_from(plan, taken, below):
    """All worded puts for taken, with parts below the number."""
    rows = []
    for point in points_of(plan, below):
        rows += [(point, by) for by in lines_putting(plan, taken, point)]
        if point[0] == taken[0] and point != taken and can_put(Plan(f"place {point[0]} {len(point[1])}"), taken, point):
            rows.append((point, None))
    return rows


class Model:
    """A script as the document tells it: works, the changes of each hand's deeds, the tellings of each hand."""

    def __init__(self, rule, crew, script):
        words = words_of(rule)
        self.crew = crew
        self.works = collections.Counter(point for _, point in crew.works)
        self.own = [[] for _ in range(crew.hands)]
        self.tellings = [[] for _ in range(crew.hands)]
        held = [[] for _ in range(crew.hands)]
        for step in script:
            hand = step[0]
            if len(step) == 1:
                self.tell(hand, held[hand])
                held[hand] = []
                continue
            _, taken, put = step
            changes = [(taken, -1, words[f"minus {taken[0]}"])]
            changes += [(point, 1, words[f"stay {taken[0]}" if by is None else f"plus {by}"]) for point, by in put]
            for point, change, _ in changes:
                self.works[point] += change
                self.own[hand].append((point, change))
            self.tell(hand, [(point, change) for point, change, word in changes if word == "now"])
            self.tell(hand, [(point, change) for point, change, word in changes if word == "apart"])
            held[hand] += [(point, change) for point, change, word in changes if word == "late"]

    def tell(self, hand, changes):
        telling = summed(changes)
        if telling:
            self.tellings[hand].append(telling)

    def counts(self, hand, heard):
        changes = [(point, 1) for _, point in self.crew.works] + self.own[hand]
        for other, numbers in enumerate(heard):
            for number in numbers:
                changes += self.tellings[other][number]
        return summed(changes)

    def wrong(self, hand, heard):
        counted = [point for point, count in self.counts(hand, heard) if count > 0]
        return tuple(point for point in sorted(self.works) if self.works[point] > 0 and not [
            far for far in counted if could_come(self.crew.plan, far, point)[0] == "way"])


def summed(changes):
    """The sums of changes at the same point, but for those that are 0."""
    sums = collections.Counter()
    for point, change in changes:
        sums[point] += change
    return tuple((point, sums[point]) for point in sorted(sums) if sums[point])


def some_crew(picks, plan, most=4):
    """A crew by a rule, with one work at least."""
    hands = picks.randint(2, 4)
    points = list(some_works(picks, plan, most, 2)) or [picks.choice(points_of(plan, 2))]
    return Crew(plan, "\n".join([f"hands {hands}"] + [
        " ".join(["work", str(picks.randrange(hands)), place, *map(str, time)]) for place, time in points]))


def some_script(picks, rule, crew, steps):
    """A script by a rule."""
    script, works = [], [point for _, point in crew.works]
    for _ in range(steps):
        hand = picks.randrange(crew.hands)
        if not works or not picks.randrange(4):
            script.append((hand,))
            continue
        taken = picks.choice(works)
        put = []
        for _ in range(picks.randint(0, 3)):
            by = picks.choice([None] + [at for at, line in enumerate(crew.plan.lines) if line[0] == taken[0]])
            place, time = taken[0], (taken[1][0] + 1,) + taken[1][1:]
            if by is not None:
                _, place, shift = crew.plan.lines[by]
                time = shifted(shift, taken[1])
            put.append(((place, time[:-1] + (time[-1] + picks.randrange(2),)), by))
        works.remove(taken)
        works += [point for point, _ in put]
        script.append((hand, taken, tuple(put)))
    return tuple(script)


def some_heard(picks, net, tellings, hand):
    """What a hand can have heard of these tellings, by a rule."""
    heard = []
    for other, told in enumerate(tellings):
        numbers = range(picks.randint(0, len(told))) if net == "ordered" else [
            number for number in range(len(told)) if picks.randrange(2)]
        heard.append(() if other == hand else tuple(numbers))
    return tuple(heard)


def all_heard(net, tellings, hand):
    """All that a hand can have heard of these tellings."""
    rows = []
    for other, told in enumerate(tellings):
        sets = [tuple(range(many)) for many in range(len(told) + 1)] if net == "ordered" else [
            numbers for many in range(len(told) + 1) for numbers in itertools.combinations(range(len(told)), many)]
        rows.append([()] if other == hand else sets)
    return list(itertools.product(*rows))


class Texts(Case):

    def bad(self, number, *rows):
        self.refuses(BadRule, number, Rule, PLAN, "\n".join(rows))

    def test_what_a_rule_keeps(self):
        for rows in (ROWS, ROWS[:1] + ROWS[:0:-1], ROWS[:1] + ROWS[3:] + ROWS[1:3]):
            rule = Rule(PLAN, "\n".join(rows))
            self.assertIs(rule.plan, PLAN)
            self.alike([rule.text, rule.net, rule.minus, rule.stay, rule.plus],
                       ["\n".join(rows), "ordered", ("late", "now"), ("apart", "now"), ("late", "apart", "now")])
        rule = Rule(text="net free\nstay a now\nminus a apart", plan=Plan("place a 4"))
        self.alike([rule.net, rule.minus, rule.stay, rule.plus], ["free", ("apart",), ("now",), ()])

    def test_many_lines(self):
        plan = Plan("place a 1\nplace b 1" + "\nline a b +0" * 24)
        rows = ["net free"] + [f"plus {at} {WORDS[at % 3]}" for at in range(23, -1, -1)]
        rows += ["minus b late", "minus a now", "stay b apart", "stay a late"]
        rule = Rule(plan, "\n".join(rows))
        self.alike(rule.plus, tuple(WORDS[at % 3] for at in range(24)))
        self.alike([rule.minus, rule.stay], [("now", "late"), ("late", "apart")])
        self.refuses(BadRule, 30, Rule, plan, "\n".join(rows + ["plus 24 now"]))

    def test_the_net_is_told_first_and_once(self):
        for row in ("", "net", "net Ordered", "net order", "net ordered ", " net ordered", "net  ordered", "Net free",
                    "net free free", "ordered", "net now", "net free\t", "minus a late"):
            self.bad(1, row, *ROWS[1:])
        self.bad(2, "net free", "net free", *ROWS[1:])
        self.bad(9, *ROWS, "net ordered")
        self.bad(2, *ROWS[:1], ROWS[0], *ROWS[1:])

    def test_lines_that_are_not_as_told(self):
        for row in ("", "minus", "minus a", "minus a late now", "minus  a late", "minus a  late", " minus a late",
                    "minus a late ", "Minus a late", "minus c late", "minus A late", "minus a Late", "minus a soon",
                    "minus 0 late", "stay 0 now", "plus a now", "plus 3 now", "plus -1 now", "plus 00 now",
                    "plus +0 now", "plus 01 now", "plus 0 ", "plus 1.0 now", "plus  now", "minus a ordered", "rubbish",
                    "a late", "late", "plus 0 now now", "place a 1", "plus 10 now"):
            self.bad(2, "net ordered", row, *ROWS[1:])
            self.bad(5, *ROWS[:4], row, *ROWS[4:])
            self.bad(9, *ROWS, row)

    def test_what_a_line_above_has_said(self):
        for at in range(1, 8):
            begin = ROWS[at].rsplit(" ", 1)[0]
            for word in WORDS:
                self.bad(9, *ROWS, f"{begin} {word}")
                self.bad(at + 2, *ROWS[:at + 1], f"{begin} {word}", *ROWS[at + 1:])

    def test_a_line_that_is_lacking(self):
        for at in range(1, 8):
            self.bad(8, *ROWS[:at], *ROWS[at + 1:])
        self.bad(2, "net free")
        self.bad(1, "")
        self.bad(4, *ROWS[:3], "rubbish")

    def test_what_is_no_string(self):
        for wrong in NEVER + (PLAN, tuple(ROWS), ROWS, b"net free"):
            self.refuses(BadRule, 1 if isinstance(wrong, str) else 0, Rule, PLAN, wrong)

    def test_a_plan_that_is_not_sound_is_refused_first(self):
        for text in ("\n".join(ROWS), "rubbish", None):
            with self.assertRaises(NotSound) as caught:
                Rule(RINGED, text)
            self.alike(shows_soundness(RINGED, caught.exception.value), True)
            with self.assertRaises(NotSound) as caught:
                count_safe(RINGED, text)
            self.alike(shows_soundness(RINGED, caught.exception.value), True)

    def test_equal_if_plans_and_texts_are(self):
        text = "\n".join(ROWS)
        rule = Rule(PLAN, text)
        self.alike([rule == Rule(Plan(PLAN.text), text), rule != Rule(Plan(PLAN.text), text)], [True, False])
        other_plan = Plan(PLAN.text.replace("+1", "+2"))
        for other in (Rule(PLAN, text.replace("late", "now")), Rule(other_plan, text), PLAN, text, None, 1, (rule,),
                      Rule(PLAN, "\n".join(ROWS[:1] + ROWS[:0:-1])), Crew(PLAN, "hands 2"), [rule]):
            self.alike([rule == other, rule != other, other == rule, other != rule], [False, True, False, True])


class Tellings(Case):

    def test_by_the_document(self):
        seen = collections.Counter()
        picks = Picks(80)
        for plan in sound_plans(80, 150, most_lines=5):
            for net in ("ordered", "free"):
                rule, crew = some_rule(picks, plan, net), some_crew(picks, plan)
                script = some_script(picks, rule, crew, picks.randint(0, 12))
                model = Model(rule, crew, script)
                told = tellings_of(rule, crew, script)
                self.alike(told, tuple(tuple(rows) for rows in model.tellings))
                for hand in range(crew.hands):
                    heard = some_heard(picks, net, told, hand)
                    counts = counts_for(rule, crew, script, hand, heard)
                    wrong = wrongly_over(rule, crew, script, hand, heard)
                    self.alike(counts, model.counts(hand, heard))
                    self.alike(wrong, model.wrong(hand, heard))
                    seen["below"] += any(count < 0 for _, count in counts)
                    seen["wrong"] += bool(wrong)
                    seen["right"] += not wrong
                seen["told"] += sum(map(len, told))
        for kind in ("below", "wrong", "right", "told"):
            self.assertGreater(seen[kind], 30, kind)

    def rule(self, minus, plus, stay="late", net="ordered"):
        """A rule for PLAN, of which only the words at a count."""
        return Rule(PLAN, f"net {net}\nminus a {minus}\nplus 0 {plus}\nstay a {stay}\nminus b late\nstay b late\n"
                          "plus 1 late\nplus 2 late")

    def test_now_then_apart_then_late_at_a_beat(self):
        crew = Crew(PLAN, "hands 2\nwork 0 a 0")
        script = ((1, A, ((("b", (0, 0)), 0), (("a", (1,)), None))),)
        for minus, plus, stay in itertools.product(WORDS, repeat=3):
            rule = self.rule(minus, plus, stay)
            rows = {"now": [], "apart": [], "late": []}
            rows[minus].append((A, -1))
            rows[stay].append((("a", (1,)), 1))
            rows[plus].append((B, 1))
            wanted = tuple(tuple(sorted(rows[word])) for word in WORDS if rows[word])
            self.alike(tellings_of(rule, crew, script + ((1,),)), ((), wanted))
            told = tellings_of(script=script, crew=crew, rule=rule)
            self.alike(told, ((), wanted[:-1] if rows["late"] else wanted))
            self.alike(tellings_of(rule, crew, script + ((0,), (1,), (1,), (0,))), ((), wanted))

    def test_what_adds_up_to_nothing_is_not_told(self):
        crew = Crew(PLAN, "hands 2\nwork 0 a 0")
        rule = self.rule("late", "late")
        script = ((0, A, ((B, 0),)), (0, B, ()), (0,), (0,))
        self.alike(tellings_of(rule, crew, script), ((((A, -1),),), ()))
        script = ((0, A, ((B, 0), (B, 0))), (0, B, ()), (0,))
        self.alike(tellings_of(rule, crew, script), ((((A, -1), (B, 1)),), ()))
        # What a hand holds is its own: the other one's take is told apart.
        script = ((0, A, ((B, 0),)), (1, B, ()), (1,), (0,))
        self.alike(tellings_of(rule, crew, script), ((((A, -1), (B, 1)),), (((B, -1),),)))
        rule = self.rule("late", "late", net="free")
        crew = Crew(PLAN, "hands 2\nwork 0 a 0\nwork 0 a 1")
        script = ((0, A, ((("a", (1,)), None),)), (0, ("a", (1,)), ()), (0, ("a", (1,)), ()), (0,))
        self.alike(tellings_of(rule, crew, script), ((((A, -1), (("a", (1,)), -1)),), ()))

    def test_several_puts_at_one_point(self):
        crew = Crew(PLAN, "hands 2\nwork 1 b 0 0")
        rule = Rule(PLAN, "net ordered\nminus a now\nminus b now\nstay a now\nstay b apart\nplus 0 now\n"
                          "plus 1 now\nplus 2 now")
        point = ("b", (0, 1))
        script = ((0, B, ((point, 1), (point, None), (point, 1), (point, None), (point, None))),)
        self.alike(tellings_of(rule, crew, script), ((((B, -1), (point, 2)), ((point, 3),)), ()))
        self.alike(counts_for(rule, crew, script, 1, (((0,), ()))), ((point, 2),))
        self.alike(counts_for(rule, crew, script, 0, ((), ())), ((point, 5),))
        self.alike(tellings_of(rule, crew, ((0, B, ((point, None),) * 12),))[0][1], ((point, 12),))

    def test_no_steps(self):
        crew = Crew(PLAN, "hands 6\nwork 5 a 0\nwork 1 a 0")
        rule = self.rule("now", "now")
        self.alike(tellings_of(rule, crew, ()), ((),) * 6)
        self.alike(counts_for(heard=((),) * 6, hand=3, script=(), crew=crew, rule=rule), ((A, 2),))
        self.alike(wrongly_over(heard=((),) * 6, hand=3, script=(), crew=crew, rule=rule), ())

    def test_a_crew_of_another_plan_is_refused_first(self):
        rule = self.rule("now", "now")
        for text in ("place a 1", PLAN.text.replace("+1", "+2"), PLAN.text + "\nline a b +0 =0"):
            crew = Crew(Plan(text), "hands 2\nwork 0 a 0")
            for script in ((), None, ((9,),)):
                self.refuses(OtherPlan, text, tellings_of, rule, crew, script)
                for function in (counts_for, wrongly_over):
                    self.refuses(OtherPlan, text, function, rule, crew, script, 0, ((), ()))
                    self.refuses(OtherPlan, text, function, rule, crew, script, None, None)
        self.alike(tellings_of(rule, Crew(Plan(PLAN.text), "hands 2"), ()), ((), ()))


class Scripts(Case):

    RULE = Rule(PLAN, "\n".join(ROWS))
    CREW = Crew(PLAN, "hands 2\nwork 0 a 0\nwork 1 b 1 1")

    def bad(self, number, script):
        self.refuses(BadScript, number, tellings_of, self.RULE, self.CREW, script)
        for hand, heard in ((0, ((), ())), (None, None)):
            self.refuses(BadScript, number, counts_for, self.RULE, self.CREW, script, hand, heard)
            self.refuses(BadScript, number, wrongly_over, self.RULE, self.CREW, script, hand, heard)

    def test_what_is_no_script(self):
        for wrong in NEVER:
            self.bad(0 if isinstance(wrong, tuple) else -1, wrong)
        self.bad(-1, [(0,)])

    def test_steps_that_are_none(self):
        put = (B, 0)
        wrongs = list(NEVER) + [
            (), (0, A), (0, A, (), 0), [0], [0, A, ()], (2,), (-1,), (True,), ("0",), ((0,),), ([0],), (2, A, ()),
            (False, A, ()), (None, A, ()), (0, ["a", (0,)], ()), (0, ("a", (False,)), ()), (0, ("a", (0, 0)), ()),
            (0, ("d", (0,)), ()), (0, None, ()), (A, (), 0)]
        for puts in (None, [put], put, (put, None), (list(put),), ((B, 0, 0),), ((B,),), ((B, False),), ((B, True),),
                     ((B, 1),), ((B, 3),), ((B, -1),), ((B, -3),), ((B, "0"),), ((B, None),), ((A, None),), (B,),
                     ((("b", (0, False)), 0),), ((["b", (0, 0)], 0),), ((("a", (1,)), 0),), (put,) * 13, {put: 1},
                     ((None, None),), ((("a", (1,)), (None,)),), ((("d", (0,)), None),), (put[::-1],)):
            wrongs.append((0, A, puts))
        for wrong in wrongs:
            self.bad(0, (wrong,))
            self.bad(2, ((0,), (0, A, (put,)), wrong, (1,), None))

    def test_a_work_has_to_be_there(self):
        later = ("a", (1,))
        self.bad(0, ((0, later, ()),))
        self.bad(1, ((0, A, ()), (0, A, ())))
        self.bad(2, ((0, A, ((later, None),)), (1, later, ()), (1, later, ()), (0,)))
        self.bad(1, ((0, A, ((later, None),)), (1, A, ())))
        # Whoever holds it, and however it came there.
        script = (1, A, ((later, None), (later, None))), (0, later, ()), (1, later, ())
        self.alike(tellings_of(self.RULE, self.CREW, script), ((), (((later, 2),),)))

    def test_twelve_puts(self):
        script = ((0, A, ((B, 0),) * 6 + ((("a", (9,)), None),) * 6),)
        self.alike(tellings_of(self.RULE, self.CREW, script), (((((("a", (9,)), 6),)),), ()))


class Heard(Case):

    RULES = {net: Rule(PLAN, "\n".join([f"net {net}"] + [row.rsplit(" ", 1)[0] + " now" for row in ROWS[1:]]))
             for net in ("ordered", "free")}
    CREW = Crew(PLAN, "hands 3\nwork 0 a 0\nwork 0 a 1\nwork 0 a 2")
    SCRIPT = tuple((hand, ("a", (at,)), ((("a", (at + 5,)), None),)) for hand, at in ((0, 0), (0, 1), (1, 2)))

    def test_what_can_have_been_heard(self):
        for net, rule in self.RULES.items():
            self.alike(tuple(map(len, tellings_of(rule, self.CREW, self.SCRIPT))), (2, 1, 0))
            rights = {row for row in all_heard(net, tellings_of(rule, self.CREW, self.SCRIPT), 2)}
            self.assertEqual(len(rights), 6 if net == "ordered" else 8)
            pieces = [(), (0,), (1,), (0, 1), (1, 0), (0, 0), (2,), (0, 1, 2), (-1,)]
            for value in itertools.product(pieces, repeat=3):
                for function in (counts_for, wrongly_over):
                    if value in rights:
                        function(rule, self.CREW, self.SCRIPT, 2, value)
                    else:
                        self.refuses(BadHeard, value, function, rule, self.CREW, self.SCRIPT, 2, value)

    def test_of_itself_a_hand_hears_nothing(self):
        for rule in self.RULES.values():
            for hand, value in ((0, ((0,), (), ())), (1, ((), (0,), ())), (0, ((0, 1), (0,), ()))):
                self.refuses(BadHeard, value, counts_for, rule, self.CREW, self.SCRIPT, hand, value)
            self.alike(counts_for(rule, self.CREW, self.SCRIPT, 1, ((), (), ())),
                       ((("a", (0,)), 1), (("a", (1,)), 1), (("a", (7,)), 1)))

    def test_in_order_and_out_of_order(self):
        late = ((1,), (), ())
        self.refuses(BadHeard, late, counts_for, self.RULES["ordered"], self.CREW, self.SCRIPT, 2, late)
        self.alike(counts_for(self.RULES["free"], self.CREW, self.SCRIPT, 2, late),
                   ((("a", (0,)), 1), (("a", (2,)), 1), (("a", (6,)), 1)))

    def test_values_of_any_kind(self):
        for rule in self.RULES.values():
            for wrong in NEVER + (
                    (), ((), ()), ((),) * 4, [(), (), ()], ((0,), [0], ()), ([], (), ()), ((0,), None, ()),
                    ((0,), 0, ()),
                    ((False,), (), ()), ((0, True), (), ()), (("0",), (), ()), ((None,), (), ()), (((0,),), (), ()),
                    ((), (), (0,)), ((), (), None), ("", (), ()), ({}, (), ())):
                for function in (counts_for, wrongly_over):
                    self.refuses(BadHeard, wrong, function, rule, self.CREW, self.SCRIPT, 2, wrong)

    def test_which_error_is_raised_first(self):
        no_hands = NEVER[:3] + NEVER[6:] + (3, -1, (0,), [0], "0")
        for rule in self.RULES.values():
            for function in (counts_for, wrongly_over):
                for wrong in no_hands:
                    self.refuses(BadHand, wrong, function, rule, self.CREW, self.SCRIPT, wrong, ((), (), ()))
                other = Crew(Plan("place a 1"), "hands 2")
                self.refuses_in_order(function, (rule, self.CREW, self.SCRIPT, 2, ((), (), ())), (
                    (1, OtherPlan, other, "place a 1"), (2, BadScript, None, -1), (3, BadHand, True, True),
                    (4, BadHeard, None, None)))
            self.refuses_in_order(tellings_of, (rule, self.CREW, ()),
                                  ((1, OtherPlan, other, "place a 1"), (2, BadScript, [], -1)))


class Safety(Case):

    def cases(self, seed, many):
        """Rules of both nets, by a rule: some of them safe, some nearly."""
        picks = Picks(seed)
        for plan in sound_plans(seed, many):
            for net in ("ordered", "free"):
                make = picks.choice((some_rule, some_safe_rule))
                yield make(picks, plan, net), picks

    def test_safe_exactly_if_no_words_part_a_deed(self):
        both = collections.Counter()
        for rule, _ in self.cases(81, 200):
            plan = rule.plan
            rows = [(place, by) for place, _ in plan.places
                    for by in [None] + [at for at, line in enumerate(plan.lines) if line[0] == place]]
            is_safe = not [row for row in rows if are_apart(rule, *row)]
            told = rule_safe(rule)
            both[rule.net, is_safe] += 1
            self.alike(shows_rule_safe(rule, told), True)
            self.alike(shows_rule_safe(rule, ("safe",)), is_safe)
            self.alike([told == ("safe",), unsafe_script(rule) is None], [is_safe, is_safe])
            if not is_safe:
                word, taken, point, by = told
                self.assertIn((point, by), puts_from(plan, taken, 10))
                self.assertTrue(word == "unsafe" and are_apart(rule, taken[0], by))
        self.assertEqual(len(both), 4)
        self.assertGreater(min(both.values()), 30)

    def test_an_unsafe_script_shows_it(self):
        seen = 0
        for rule, _ in self.cases(82, 120):
            told = unsafe_script(rule=rule)
            if told is None:
                continue
            seen += 1
            text, script, hand, heard = told
            crew = Crew(rule.plan, text)
            model = Model(rule, crew, script)
            self.assertIn(heard, all_heard(rule.net, model.tellings, hand))
            self.assertNotEqual(model.wrong(hand, heard), ())
            self.alike(wrongly_over(rule, crew, script, hand, heard), model.wrong(hand, heard))
        self.assertGreater(seen, 60)

    def test_by_a_safe_rule_nothing_is_wrongly_over(self):
        picks = Picks(83)
        for plan in sound_plans(83, 120, most_lines=5):
            for net in ("ordered", "free"):
                rule, crew = some_safe_rule(picks, plan, net), some_crew(picks, plan)
                self.alike(rule_safe(rule), ("safe",))
                script = some_script(picks, rule, crew, 12)
                told = tellings_of(rule, crew, script)
                for hand in range(crew.hands):
                    for _ in range(6):
                        self.alike(wrongly_over(rule, crew, script, hand, some_heard(picks, net, told, hand)), ())

    def test_deed_by_deed(self):
        """A deed of one work that is put can lead astray exactly if its two words do."""
        for rule, picks in self.cases(84, 40):
            for taken in points_of(rule.plan, 2):
                crew = Crew(rule.plan, " ".join(["hands 2\nwork 0", taken[0], *map(str, taken[1])]))
                for point, by in puts_from(rule.plan, taken, 3):
                    wrong = []
                    for script in (((0, taken, ((point, by),)),), ((0, taken, ((point, by),)), (0,))):
                        told = tellings_of(rule, crew, script)
                        wrong += [heard for heard in all_heard(rule.net, told, 1)
                                  if wrongly_over(rule, crew, script, 1, heard)]
                    self.assertEqual(bool(wrong), are_apart(rule, taken[0], by))
                    self.alike(shows_rule_safe(rule, ("unsafe", taken, point, by)), are_apart(rule, taken[0], by))

    def test_every_right_value_and_no_other_one(self):
        for rule, _ in self.cases(85, 30):
            points, bys = points_of(rule.plan, 3), [None, *range(-1, len(rule.plan.lines) + 1), True, False, "0", (0,)]
            for taken, point, by in itertools.product(points, points, bys):
                right = not isinstance(by, bool) and (point, by) in puts_from(rule.plan, taken, 3)
                self.alike(shows_rule_safe(rule, ("unsafe", taken, point, by)), right and are_apart(rule, taken[0], by))

    def test_values_of_any_kind(self):
        unsafe, safe = Rule(PLAN, "\n".join(ROWS)), Heard.RULES["free"]
        right = ("unsafe", B, ("a", (10 ** 39,)), 2)
        self.alike(shows_rule_safe(value=("unsafe", B, ("b", (0, 1)), 1), rule=unsafe), True)
        self.alike([shows_rule_safe(safe, ("safe",)), shows_rule_safe(unsafe, ("safe",))], [True, False])
        wrong = NEVER + (
            (), right, right[:3], right + (0,), list(right), ("unsafe",), ("Unsafe", B, ("b", (0, 1)), 1), ["safe"],
            "safe", ("safe", ()), ("Safe",), (("safe",),), (None, B, ("b", (0, 1)), 1),
            ("unsafe", list(B), ("b", (0, 1)), 1),
            ("unsafe", B, ["b", (0, 1)], 1), ("unsafe", B, ("b", (0, True)), 1), ("unsafe", B, ("b", (0, 1)), True),
            ("unsafe", ("b", (False, 0)), ("b", (0, 1)), 1), ("unsafe", B, ("b", (0, 1)), None), ("unsafe", B, B, 1),
            ("unsafe", B, B, None), ("unsafe", A, B, 0), ("unsafe", A, ("a", (1,)), None), ("unsafe", None, None, None),
            ("unsafe", B, ("b", (0, 1)), -2), ("unsafe", B, ("b", (0, 1)), "1"), (PLAN, PLAN, PLAN, PLAN))
        for value in wrong:
            self.alike([shows_rule_safe(unsafe, value), shows_rule_safe(safe, value)], [False, False])

    def test_tables_do_not_count_but_for_scripts(self):
        for net in ("ordered", "free"):
            rows = [f"{kind} {place}" for kind in ("minus", "stay") for place, _ in WIDE.places]
            rows += [f"plus {at}" for at in range(len(WIDE.lines))]
            same = Rule(WIDE, "\n".join([f"net {net}"] + [row + " apart" for row in rows]))
            part = Rule(WIDE, "\n".join([f"net {net}"] + [row + " apart" for row in rows[1:]] + [rows[0] + " now"]))
            self.alike([rule_safe(same), unsafe_script(same), rule_safe(part)[0]], [("safe",), None, "unsafe"])
            self.alike(shows_rule_safe(part, rule_safe(part)), True)
            self.refuses(TooMany, 200, unsafe_script, part)
            rule = Rule(FULL, "\n".join(row for row in part.text.split("\n") if row != f"plus {len(FULL.lines)} apart"))
            text, script, hand, heard = unsafe_script(rule)
            self.assertTrue(wrongly_over(rule, Crew(FULL, text), script, hand, heard))


class Counted(Case):

    def test_against_all_rules_one_by_one(self):
        for plan in sound_plans(86, 40, most_places=2, most_lines=3):
            begins = [f"{kind} {place}" for kind in ("minus", "stay") for place, _ in plan.places]
            begins += [f"plus {at}" for at in range(len(plan.lines))]
            if len(begins) > 6:
                continue
            for net in ("ordered", "free"):
                many = 0
                for words in itertools.product(WORDS, repeat=len(begins)):
                    rule = Rule(plan, "\n".join([f"net {net}"] + [f"{one} {far}" for one, far in zip(begins, words)]))
                    many += rule_safe(rule) == ("safe",)
                self.alike(count_safe(plan, net), many)

    def test_great_plans(self):
        for plan in (WIDE, PLAN, Plan("place a 1\nplace b 1" + "\nline a b +0" * 24), Plan("place z 4"),
                     Plan("\n".join(f"place {letter} 1" for letter in "abcdefghijkl"))):
            many = [1 + len([line for line in plan.lines if line[0] == place]) for place, _ in plan.places]
            wanted = 1
            for lines in many:
                wanted *= 1 + 2 ** lines + 3 ** lines
            self.alike([count_safe(plan, "ordered"), count_safe(net="free", plan=plan)], [wanted, 3 ** len(plan)])

    def test_what_is_no_net_is_refused(self):
        for wrong in NEVER + ("Ordered", "free ", "net free", ("free",), ["free"], "order", (), "now", PLAN):
            self.refuses(BadNet, wrong, count_safe, PLAN, wrong)
            self.refuses(BadNet, wrong, count_safe, WIDE, wrong)
