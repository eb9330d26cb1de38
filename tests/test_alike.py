"""Alike plans (section 14)."""

import itertools

from closing import closed_tables, small_plans
from support import FULL, NARROW, NEVER, WIDE, Case, Picks, all_times, random_plan
from timesover.alike import tells_alike
from timesover.errors import BadDoors, TooMany
from timesover.fronts import front_of
from timesover.plans import Plan, depth_of
from timesover.shifts import is_below, parting_time, shifted
from timesover.tables import could_come

ROWS = ["place a 1", "place b 2", "place c 1", "line a b +0 =0", "line b b +0 +1", "line b c +0", "line a c +3"]
PLAN = Plan("\n".join(ROWS))
NO_DOORS = NEVER[:12] + NEVER[13:] + (
    (), ("a", "a"), ("a", "c", "a"), ["a"], ("d",), ("a", "d"), ("A",), ("a", None), (("a",),), ("a", ""), ("ab",),
    {"a": 1}, ("a", 0), ("a", ["c"]), (True, "a"), PLAN, (PLAN,), "abc", ["a", "b"],
)


def told(one, other, doors_in, doors_out):
    """What tells_alike has to return, by the words of the document and tables that are closed here."""
    tables, far_tables = closed_tables(one), closed_tables(other)
    for door in doors_in:
        for far in doors_out:
            table, far_table = tables[door, far], far_tables[door, far]
            if table == far_table:
                continue
            word = "one"
            rows = [shift for shift in table if not any(is_below(known, shift) for known in far_table)]
            if not rows:
                word, table, far_table = "other", far_table, table
                rows = [shift for shift in table if not any(is_below(known, shift) for known in far_table)]
            time = parting_time(depth_of(one, door), rows[0], far_table)
            return ("parts", door, time, far, shifted(rows[0], time), word)
    return ("alike",)


class Plans(Case):

    def check(self, one, other, doors_in, doors_out):
        """What is told, and what it says of works and fronts; returns the last word of it."""
        value = tells_alike(one, other, doors_in, doors_out)
        self.alike(value, told(one, other, doors_in, doors_out))
        self.alike(tells_alike(one, other, doors_in, doors_out), value)
        if value == ("alike",):
            for door, far in itertools.product(doors_in, doors_out):
                for time in all_times(depth_of(one, door), 4):
                    works = ((door, time),)
                    self.alike(front_of(one, works, far), front_of(other, works, far))
        else:
            _, door, time, far, later, word = value
            ways = [could_come(plan, (door, time), (far, later))[0] for plan in (one, other)]
            self.assertEqual(ways, ["way", "barred"] if word == "one" else ["barred", "way"])
        return value[-1]

    def test_all_small_plans(self):
        plans = small_plans()
        words = [self.check(one, other, ("a",), ("b",)) for one in plans[::3] for other in plans[1::4]]
        self.assertEqual(set(words), {"alike", "one", "other"})
        for one in plans[::5]:
            self.alike(tells_alike(one, one, ("a", "b"), ("a", "b")), ("alike",))

    def test_plans_by_a_rule(self):
        picks, words = Picks(140), []
        for _ in range(500):
            one = random_plan(picks, most_places=3, most_lines=5)
            other = self.bent(picks, one) if picks.randrange(3) else random_plan(picks, most_places=3, most_lines=5)
            depths = dict(other.places)
            doors = [name for name, depth in one.places if depths.get(name) == depth]
            if doors:
                doors_in, doors_out = self.some_doors(picks, doors), self.some_doors(picks, doors)
                words.append(self.check(one, other, doors_in, doors_out))
        for word in ("alike", "one", "other"):
            self.assertGreater(words.count(word), 20)

    def bent(self, picks, plan):
        """The plan with one line left out, put twice, or with other numbers."""
        rows = plan.text.split("\n")
        lines = [at for at, row in enumerate(rows) if row.startswith("line")]
        if lines:
            at = picks.choice(lines)
            row = rows[at]
            rows[at:at + 1] = picks.choice(([], [row, row], [row.replace("0", "1")], [row.replace("+1", "+0")]))
        return Plan("\n".join(rows))

    def some_doors(self, picks, names):
        """One or more of the names, in some order."""
        rest = list(names)
        return tuple(rest.pop(picks.randrange(len(rest))) for _ in range(picks.randint(1, len(names))))

    def test_the_first_doors_with_unlike_tables_in_their_order(self):
        one = Plan("place a 1\nplace b 1\nplace c 1\nline a b +1\nline a c +1\nline b c +0")
        other = Plan("place c 1\nplace b 1\nplace a 1\nline a b +2\nline a c +1\nline b c =4")
        self.alike(tells_alike(one, other, ("a", "b"), ("a", "b", "c")), ("parts", "a", (0,), "b", (1,), "one"))
        self.alike(tells_alike(one, other, ("b", "a"), ("a", "c", "b")), ("parts", "b", (0,), "c", (0,), "one"))
        self.alike(tells_alike(other, one, ("a", "b"), ("a", "b", "c")), ("parts", "a", (0,), "b", (1,), "other"))
        self.alike(tells_alike(other, one, ("a", "b"), ("c", "b")), ("parts", "a", (5,), "c", (4,), "one"))
        # The table of other has =4 beside what one tells, of which no shift is below it.
        later = Plan("place a 1\nplace b 1\nplace c 1\nline a b +1\nline a c +1\nline b c =4\nline b c +0")
        self.alike(tells_alike(one, later, ("b",), ("c",)), ("parts", "b", (5,), "c", (4,), "other"))
        self.alike(tells_alike(later, one, ("b",), ("c",)), ("parts", "b", (5,), "c", (4,), "one"))

    def test_doors_without_a_way(self):
        none, some = Plan("place a 1\nplace b 2"), Plan("place a 1\nplace b 2\nline a b =3 =1")
        self.alike(tells_alike(none, some, ("b",), ("a",)), ("alike",))
        self.alike(tells_alike(none, some, ("a",), ("b",)), ("parts", "a", (4,), "b", (3, 1), "other"))
        self.alike(tells_alike(some, none, ("a",), ("b",)), ("parts", "a", (4,), "b", (3, 1), "one"))

    def test_plans_that_are_not_sound_and_a_table_without_the_empty_way(self):
        ring, fixed = Plan("place a 1\nline a a +0"), Plan("place a 1\nline a a =0")
        self.alike(tells_alike(ring, Plan("place a 1"), ("a",), ("a",)), ("alike",))
        self.alike(tells_alike(ring, fixed, ("a",), ("a",)), ("parts", "a", (1,), "a", (0,), "other"))
        self.alike(self.check(fixed, Plan("place a 1\nline a a =0\nline a a =5"), ("a",), ("a",)), "alike")

    def test_lines_above_others_and_lines_twice_and_other_places_tell_nothing(self):
        more = Plan("place z 3\n" + PLAN.text + "\nline a c +3\nline a b +1 =4\nline z z +0 +0 +0\nline a z =0 =0 =0")
        self.alike(tells_alike(PLAN, more, ("a", "b", "c"), ("c", "b", "a")), ("alike",))

    def test_arguments_by_name(self):
        other = Plan("place a 1\nplace c 1\nline a c +1")
        self.alike(tells_alike(doors_out=("c",), doors_in=("a",), other=other, one=PLAN),
                   ("parts", "a", (0,), "c", (0,), "one"))


class Errors(Case):

    def test_what_are_no_doors_is_refused(self):
        for wrong in NO_DOORS:
            self.refuses(BadDoors, wrong, tells_alike, PLAN, PLAN, wrong, ("a",))
            self.refuses(BadDoors, wrong, tells_alike, PLAN, PLAN, ("a",), wrong)
            self.refuses(BadDoors, wrong, tells_alike, PLAN, PLAN, wrong, ())
            self.refuses(BadDoors, wrong, tells_alike, PLAN, PLAN, wrong, wrong)
        for right in (("a",), ("c", "b", "a"), ("a", "b", "c")):
            self.alike(tells_alike(PLAN, PLAN, right, right), ("alike",))

    def test_doors_that_one_plan_lacks_or_has_with_another_depth(self):
        other = Plan("place a 1\nplace b 1\nplace d 1")
        for one, two in ((PLAN, other), (other, PLAN)):
            for wrong in (("b",), ("a", "b"), ("b", "a"), ("c",), ("d",), ("a", "c"), ("d", "a")):
                self.refuses(BadDoors, wrong, tells_alike, one, two, wrong, ("a",))
                self.refuses(BadDoors, wrong, tells_alike, one, two, ("a",), wrong)
                self.refuses(BadDoors, wrong, tells_alike, one, two, wrong, ("b", "b"))
            self.alike(tells_alike(one, two, ("a",), ("a",)), ("alike",))

    def test_too_many_shifts_between_the_doors_alone(self):
        for one, other in ((WIDE, FULL), (FULL, WIDE), (WIDE, WIDE), (WIDE, NARROW)):
            self.refuses(TooMany, 200, tells_alike, one, other, ("a",), ("f",))
            # Although tables that are looked at first part the plans, and these doors are the last ones.
            self.refuses(TooMany, 200, tells_alike, one, other, ("b", "c", "a"), ("b", "f"))
            self.refuses(BadDoors, (), tells_alike, one, other, ("a",), ())
            self.refuses(BadDoors, ("g",), tells_alike, one, other, ("g",), ("f",))
        self.alike(tells_alike(FULL, FULL, ("a", "b"), ("e", "f")), ("alike",))
        self.alike(tells_alike(WIDE, FULL, ("b", "c", "d"), ("a", "f")), ("alike",))
        self.alike(tells_alike(WIDE, FULL, ("a",), ("e", "a")), ("alike",))
        self.alike(tells_alike(NARROW, FULL, ("a",), ("f",))[0], "parts")
