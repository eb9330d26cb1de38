"""Glued places (section 13)."""

import collections

from histories import History
from support import (
    FULL, NARROW, NEVER, NO_WORKS, WIDE, Case, Picks, all_times, points_of, random_plan, sound_plans,
)
from timesover.crews import check_deed
from timesover.errors import BadDeeds, BadNames, BadWorks, NotSound, TooMany
from timesover.glued import glued_counts, glued_safe, glued_script
from timesover.plans import Plan
from timesover.shifts import shifted
from timesover.sound import shows_soundness, soundness
from timesover.tables import could_come, shift_table
from timesover.times import is_before

PLAIN = Plan("place x 1\nplace y 1\nline x y +0\nline x x +1")
RINGED = Plan("place z 1\nline z z =0")
DEEP = Plan("place z 1\nplace w 2\nplace v 1")
# None of these are names of DEEP for the places of a plan with depths 1, 2 and 1.
NO_GLUES = NEVER + (
    (), ("z",), ("z", "w"), ("z", "w", "v", "z"), ["z", "w", "v"], "zwv", ("w", "w", "v"), ("z", "z", "v"),
    ("z", "w", "w"), ("z", "w", "x"), ("z", "w", None), ("z", "w", ["v"]), ("z", "w", ("v",)), (True, "w", "v"),
    ("Z", "w", "v"), ("z", 2, "v"), {"z": 0, "w": 1, "v": 2}, ("z", "w", ""), (DEEP, DEEP, DEEP), ("x", "y", "z"),
)


def cases(seed, many, **limits):
    """Plans with coarse plans and names, by a rule: some coarse plans are nearly the plan itself, some are others."""
    picks = Picks(seed)
    rows = []
    while len(rows) < many:
        plan = sound_plans(picks.randrange(1000), 1, **limits)[0]
        coarse = picks.choice((plan, random_plan(picks, **limits), lowered(picks, plan), merged(picks, plan)))
        if soundness(coarse) != ("sound",):
            continue
        fitting = [[name for name, depth in coarse.places if depth == parts] for _, parts in plan.places]
        if not all(fitting):
            continue
        is_itself = plan.places == coarse.places and picks.randrange(3)
        names = [name for name, _ in plan.places] if is_itself else [picks.choice(row) for row in fitting]
        rows.append((plan, coarse, tuple(names), picks))
    return rows


def lowered(picks, plan):
    """The plan with some numbers of its lines less, or more, by 1."""
    rows = []
    for row in plan.text.split("\n"):
        words = row.split(" ")
        if words[0] == "line":
            words[3:] = [word[0] + str(max(0, int(word[1:]) + picks.choice((0, 0, -1, 1)))) for word in words[3:]]
        rows.append(" ".join(words))
    return Plan("\n".join(rows))


def merged(picks, plan):
    """A plan with one place for each depth of the plan, and with some of its lines."""
    names = {place: "z" * depth for place, depth in plan.places}
    rows = [f"place {'z' * depth} {depth}" for depth in sorted({depth for _, depth in plan.places})]
    for start, end, shift in plan.lines:
        if picks.randrange(2):
            rows.append(" ".join(["line", names[start], names[end], *[sign + str(number) for sign, number in shift]]))
    return Plan("\n".join(rows))


def comes(coarse, one, other):
    """Whether the one point could come to the other one."""
    return could_come(coarse, one, other)[0] == "way"


def lost(plan, coarse, names, below):
    """The first line with the least time, with parts below the number, at which names are not safe; None if none is."""
    glue = dict(zip([name for name, _ in plan.places], names))
    for number, (start, end, shift) in enumerate(plan.lines):
        table = shift_table(coarse, glue[start], glue[end])
        for time in all_times(dict(plan.places)[start], below):
            far = shifted(shift, time)
            is_led = any(is_before(shifted(known, time), far) for known in table)
            if not is_led or (glue[start], time) == (glue[end], far):
                return number, time
    return None


class Safe(Case):

    def test_exactly_if_no_line_is_lost(self):
        both = collections.Counter()
        for seed, below, limits in ((100, 6, {}), (101, 6, {"numbers": (0, 1, 3)}), (102, 5, {"most_lines": 6}),
                                    (103, 3, {"most_depth": 4, "numbers": (0, 0, 1)})):
            for plan, coarse, names, _ in cases(seed, 250, **limits):
                wanted = lost(plan, coarse, names, below)
                both[wanted is None] += 1
                self.alike(glued_safe(plan, coarse, names), ("unsafe", *wanted) if wanted else ("safe",))
                self.assertEqual(glued_script(plan, coarse, names) is None, wanted is None)
        self.assertGreater(min(both.values()), 150)

    def test_bounds_that_have_to_be_passed(self):
        plan = Plan("place a 3\nline a a +1 =9 =7")
        two = Plan("place a 3\nplace b 3\nline a b +1 =9 =7")
        for row, wanted in (("=0 +0 +0", (0, 0, 8)), ("+1 +3 +0", (0, 0, 8)), ("+0 +0 =7", (0, 10, 0)),
                            ("+1 =9 =0", None), ("+1 +9 =0", (0, 1, 0)), ("+1 =9 +7", (0, 0, 1)),
                            ("+2 =0 =0", (0, 0, 0))):
            coarse = Plan("place c 3\nplace d 3\nline c d " + row)
            self.alike(glued_safe(two, coarse, ("c", "d")), ("unsafe", 0, wanted) if wanted else ("safe",))
            self.alike(lost(two, coarse, ("c", "d"), 11), (0, wanted) if wanted else None)
        # One that is passed by at its last part, another one at its first.
        coarse = Plan("place c 3\nplace d 3\nline c d +1 +4 +5\nline c d +1 +7 =7")
        self.alike(glued_safe(two, coarse, ("c", "d")), ("unsafe", 0, (0, 3, 3)))
        self.alike(glued_safe(plan, Plan("place c 3\nline c c +1 =9 =7"), ("c",)), ("safe",))

    def test_parts_that_are_left_out(self):
        plan = Plan("place a 4\nplace b 1\nline a b =5")
        coarse = Plan("place a 4\nplace b 1\nline a b +2")
        self.alike(glued_safe(plan, coarse, ("a", "b")), ("unsafe", 0, (4, 0, 0, 0)))
        self.alike(glued_script(plan, coarse, ("a", "b")),
                   ((("a", (4, 0, 0, 0)),), ((("a", (4, 0, 0, 0)), (("b", (5,)),)),), (), ("b", (5,))))

    def test_a_work_and_what_it_puts_are_the_same_point(self):
        coarse = Plan("place z 2\nline z z +0 +1")
        plan = Plan("place a 2\nplace b 2\nline a a +0 +1\nline a b =3 +0")
        self.alike(glued_safe(plan, coarse, ("z", "z")), ("unsafe", 1, (3, 0)))
        self.alike(glued_safe(plan, Plan("place z 2\nline z z =3 +1"), ("z", "z")), ("unsafe", 1, (3, 0)))
        later = Plan("place a 2\nplace b 2\nline a b =3 +1")
        self.alike(glued_safe(later, coarse, ("z", "z")), ("unsafe", 0, (4, 0)))
        self.alike(glued_script(later, coarse, ("z", "z"))[1:], (
            ((("a", (4, 0)), (("b", (3, 1)),)),), (), ("z", (3, 1))))
        told = glued_script(coarse=coarse, names=("z", "z"), plan=plan)
        taken, put, other = ("a", (3, 0)), ("b", (3, 0)), ("a", (4, 0))
        self.alike(told, ((taken,), ((taken, (other, put)), (put, ())), (1,), ("z", (4, 0))))
        raised = Plan("place a 2\nplace b 2\nline a b +0 +1")
        self.alike(glued_safe(names=("z", "z"), coarse=coarse, plan=raised), ("safe",))

    def test_a_plan_without_lines(self):
        self.alike(glued_safe(Plan("place a 1\nplace b 1"), PLAIN, ("x", "x")), ("safe",))
        self.alike(glued_script(Plan("place a 1\nplace b 1"), PLAIN, ("y", "x")), None)

    def test_what_is_safe_is_never_wrong(self):
        seen = 0
        for plan, coarse, names, picks in cases(104, 400):
            if glued_safe(plan, coarse, names) != ("safe",):
                continue
            glue = dict(zip([name for name, _ in plan.places], names))
            history = History(picks, plan, 8)
            counts = history.counts(history.heard, lambda point: (glue[point[0]], point[1]))
            told = glued_counts(plan, coarse, names, tuple(history.beginning), history.pairs(history.heard))
            self.alike(told, counts)
            for place, time in history.works():
                seen += 1
                self.assertTrue([far for far, count in counts if count > 0 and comes(coarse, far, (glue[place], time))])
        self.assertGreater(seen, 100)


class Scripts(Case):

    def test_it_shows_what_is_wrong(self):
        kinds = collections.Counter()
        for plan, coarse, names, _ in cases(105, 800):
            told = glued_safe(plan, coarse, names)
            if told == ("safe",):
                continue
            glue = dict(zip([name for name, _ in plan.places], names))
            start, end, shift = plan.lines[told[1]]
            taken, put = (start, told[2]), (end, shifted(shift, told[2]))
            works, deeds, numbers, point = glued_script(plan, coarse, names)
            self.alike(works, (taken,))
            is_same = glue[start] == glue[end] and told[2] == put[1]
            kinds[is_same] += 1
            other = (start, (told[2][0] + 1,) + told[2][1:])
            if is_same:
                self.alike([deeds, numbers, point],
                           [((taken, tuple(sorted((put, other)))), (put, ())), (1,), (glue[start], other[1])])
            else:
                self.alike([deeds, numbers, point], [((taken, (put,)),), (), (glue[end], put[1])])
            there = list(works)
            for deed in deeds:
                check_deed(plan, *deed)
                there.remove(deed[0])
                there.extend(deed[1])
            self.assertIn(point, [(glue[place], time) for place, time in there])
            heard = tuple(deeds[number] for number in numbers)
            for far, count in glued_counts(plan, coarse, names, works, heard):
                self.assertFalse(count > 0 and comes(coarse, far, point))
        self.assertGreater(min(kinds[True], kinds[False]), 20)


class Counts(Case):

    def test_works_and_deeds_by_their_glued_points(self):
        below = 0
        for plan, coarse, names, picks in cases(106, 150):
            glue = dict(zip([name for name, _ in plan.places], names))
            history = History(picks, plan, 6)
            for deeds in (history.deeds, history.heard, history.deeds[::-1], []):
                wanted = history.counts(deeds, lambda point: (glue[point[0]], point[1]))
                below += any(count < 0 for _, count in wanted)
                self.alike(glued_counts(plan, coarse, names, tuple(history.beginning), history.pairs(deeds)), wanted)
        self.assertGreater(below, 10)

    def test_none_and_several_at_one_point(self):
        one = Plan("place z 1")
        self.alike(glued_counts(PLAIN, one, ("z", "z"), (), ()), ())
        works = (("x", (0,)), ("x", (0,)), ("y", (0,)), ("y", (2,)))
        self.alike(glued_counts(PLAIN, one, ("z", "z"), works, ()), ((("z", (0,)), 3), (("z", (2,)), 1)))
        self.alike(glued_counts(deeds=((("x", (0,)), (("y", (0,)),)), (("x", (2,)), ())), works=works, names=("z", "z"),
                                coarse=one, plan=PLAIN), ((("z", (0,)), 3),))


class Errors(Case):

    PLAN = Plan("place a 1\nplace b 2\nplace c 1\nline a b +0 =0\nline b b +0 +1\nline b c +0\nline c a +1")
    NAMES = ("z", "w", "v")

    def test_what_are_no_names_is_refused(self):
        self.alike(glued_counts(self.PLAN, DEEP, self.NAMES, (), ()), ())
        for wrong in NO_GLUES:
            self.refuses(BadNames, wrong, glued_safe, self.PLAN, DEEP, wrong)
            self.refuses(BadNames, wrong, glued_script, self.PLAN, DEEP, wrong)
            self.refuses(BadNames, wrong, glued_counts, self.PLAN, DEEP, wrong, (), ())
            self.refuses(BadNames, wrong, glued_counts, self.PLAN, DEEP, wrong, None, None)

    def test_what_are_no_works_or_no_deeds_is_refused(self):
        right = ("a", (0,)), (("a", (1,)),)
        for wrong in NO_WORKS:
            self.refuses(BadWorks, wrong, glued_counts, self.PLAN, DEEP, self.NAMES, wrong, ())
        for wrong in NEVER:
            number = 0 if isinstance(wrong, tuple) else -1
            self.refuses(BadDeeds, number, glued_counts, self.PLAN, DEEP, self.NAMES, (), wrong)
            self.refuses(BadDeeds, 2, glued_counts, self.PLAN, DEEP, self.NAMES, (), (right, right, wrong, right))
        for wrong in (right[::-1], list(right), (("z", (0,)), ()), (("a", (0,)), (("a", (0,)),)), right + (0,),
                      (("a", (0,)), [("a", (1,))]), (("a", (0,)), (("a", (1,)),) * 13), (("a", (False,)), ())):
            self.refuses(BadDeeds, 1, glued_counts, self.PLAN, DEEP, self.NAMES, (), (right, wrong, None))

    def test_which_error_is_raised_first(self):
        self.refuses_in_order(glued_counts, (self.PLAN, DEEP, self.NAMES, (), ()), (
            (2, BadNames, None, None), (3, BadWorks, (None,), (None,)), (4, BadDeeds, [], -1)))
        names = tuple("abcdef")
        for function in (glued_safe, glued_script):
            self.refuses_in_order(function, (NARROW, NARROW, names), ((2, BadNames, names[::-1][:5], names[::-1][:5]),))

    def test_plans_that_are_not_sound_are_refused_first(self):
        other = Plan("place z 1\nline z z +0")
        for plan, coarse, told_of in ((RINGED, other, RINGED), (other, RINGED, other), (PLAIN, other, other),
                                      (RINGED, PLAIN, RINGED)):
            for names in (("z",), None):
                for function, more in ((glued_safe, ()), (glued_script, ()), (glued_counts, (None, None))):
                    with self.assertRaises(NotSound) as caught:
                        function(plan, coarse, names, *more)
                    self.alike(shows_soundness(told_of, caught.exception.value), True)

    def test_only_tables_of_lines_that_are_looked_at_can_be_too_large(self):
        names = tuple("abcdef")
        places = "\n".join(f"place {name} 2" for name in names)
        for text in ("line a f +0 +0", "line a b +398 +398\nline a f +0 +0", "line a f +999 +999\nline b a +9 +9"):
            plan = Plan(places + "\n" + text)
            for function in (glued_safe, glued_script):
                self.refuses(TooMany, 200, function, plan, WIDE, names)
            self.assertEqual(glued_safe(plan, FULL, names)[0], "unsafe")
        # A line ahead of it is told; only tables of the coarse plan count; no table counts without a line.
        plan = Plan(places + "\nline b a +9 +9\nline a f +0 +0")
        self.alike(glued_safe(plan, WIDE, names), ("unsafe", 0, (0, 0)))
        self.assertEqual(glued_script(plan, WIDE, names)[3], ("a", (9, 9)))
        self.alike(glued_safe(Plan(WIDE.text.rsplit("\n", 1)[0]), WIDE, names), ("safe",))
        self.alike(glued_safe(Plan(places + "\nline b f +999 +999"), WIDE, names), ("safe",))
        self.alike(glued_counts(WIDE, WIDE, names, (("a", (0, 0)),), ()), ((("a", (0, 0)), 1),))
        coarse = Plan(places + "".join(f"\nline {one} {two} +0 +0" for one, two in zip("abcde", "bcdef")))
        self.alike(glued_safe(WIDE, coarse, names), ("safe",))

    def test_points_of_both_plans(self):
        for point in points_of(PLAIN, 2):
            self.alike(glued_counts(PLAIN, DEEP, ("v", "v"), (point,), ()), ((("v", point[1]), 1),))
