"""Desks (section 18)."""

import collections

from beside import likely_step, played_yard, shown
from support import NEVER, Case, Picks, sound_plans
from test_journals import step_line
from timesover.crews import Crew
from timesover.desk import Desk, desk_text, read_desk
from timesover.errors import (
    BadDesk, BadEntry, BadHand, BadJournal, BadStep, Held, NoEntry, NoLetter, NoMark, NothingToRedo, NothingToUndo,
    NoWork, OverError,
)
from timesover.journals import journal
from timesover.plans import Plan
from timesover.yards import Yard
from worlds import some_crew

CREW = Crew(Plan("place a 1\nline a a +1"), "hands 2\nwork 0 a 0")
JOURNAL = "place a 1\nline a a +1\nhands 2\nwork 0 a 0"
STEPS = ("deed 0 a 0 : 1 a 4", "arrive 1 a 4", "beat 0", "hear 1 0")
NO_ENTRIES = tuple(value for value in NEVER if value != "a") + ("b", "A", "", ("a",), ["a"], "a ", 0)
NO_WORDS = tuple(value for value in NEVER if value not in ("a", "zz", "kept")) + (
    "", "A", "a b", "abcdefghi", "a1", "a\n", ("a",), ["a"], "-", " a", "a ")
NAMES = ("a", "b", "entry", "mark", "zzzzzzzz")


def yard_behind(crew, steps):
    """A fresh yard in which these steps were done."""
    yard = Yard(crew)
    for step in steps:
        yard.step(step)
    return yard


class Plain:
    """An entry by plain lists: steps that stand, steps undone with the last one first done again, marks."""

    def __init__(self, crew, steps):
        self.crew = crew
        self.steps = list(steps)
        self.undone = []
        self.marked = {}

    def text(self, name):
        """The lines of the entry."""
        rows = [f"entry {name} {len(self.steps)}"]
        rows += [f"mark {word} {number}" for word, number in sorted(self.marked.items())]
        steps = self.steps + self.undone[::-1]
        return "\n".join(rows + [self.crew.plan.text, self.crew.text] + [step_line(step) for step in steps])

    def move(self, many):
        """Undoes steps, or does them again, until so many stand."""
        while len(self.steps) > many:
            self.undone.append(self.steps.pop())
        while len(self.steps) < many:
            self.steps.append(self.undone.pop())


class Beside:
    """A desk, and plain entries beside it."""

    def __init__(self, case, picks, crews):
        self.case = case
        self.picks = picks
        self.crews = crews
        self.desk = Desk()
        self.plain = {}
        self.seen = collections.Counter()

    def check(self):
        """All that the desk shows is what the plain entries tell."""
        case, desk = self.case, self.desk
        case.alike([desk.names, len(desk)], [tuple(sorted(self.plain)), len(self.plain)])
        case.alike([name in desk for name in NAMES], [name in self.plain for name in NAMES])
        for name, entry in self.plain.items():
            case.alike(desk.all_steps(name), (tuple(entry.steps), tuple(entry.undone[::-1])))
            case.alike(desk.marks(name), tuple(sorted(entry.marked.items())))
        text = desk_text(desk)
        case.alike(text, "\n".join(entry.text(name) for name, entry in sorted(self.plain.items())))
        return text

    def check_yards(self):
        """The yards of all entries stand as yards do in which just these steps were done; the text is read back."""
        text = self.check()
        other = read_desk(text)
        self.case.alike(desk_text(other), text)
        for name, entry in self.plain.items():
            wanted = shown(yard_behind(entry.crew, entry.steps))
            self.case.alike([shown(self.desk.yard_of(name)), shown(other.yard_of(name))], [wanted] * 2)
            self.case.alike([other.all_steps(name), other.marks(name)],
                            [self.desk.all_steps(name), self.desk.marks(name)])

    def refused(self, error, value, method, *arguments):
        """The call is refused, and nothing has changed."""
        before = self.check()
        self.case.refuses(error, value, method, *arguments)
        self.case.alike(desk_text(self.desk), before)

    def do(self):
        """One call by a rule."""
        kind = self.picks.choice(("begin", "branch", "branch", "drop") + ("mark",) * 4 + ("back",) * 4
                                 + ("undo",) * 6 + ("redo",) * 2 + ("lead",) * 6)
        name = self.picks.choice(NAMES)
        if kind == "begin":
            self.begin(name)
        elif name not in self.plain:
            rests = {"branch": ("c",), "mark": ("a",), "back": ("a",), "lead": (("settle",),)}
            self.refused(NoEntry, name, getattr(self.desk, kind), name, *rests.get(kind, ()))
        elif kind == "drop":
            if self.picks.randrange(3) == 0:
                self.case.assertIsNone(self.desk.drop(name))
                del self.plain[name]
                self.seen[kind] += 1
        else:
            getattr(self, kind)(name, self.plain[name])
        self.check()

    def begin(self, name):
        if name in self.plain:
            self.refused(Held, name, self.desk.begin, name, None)
            return
        yard = played_yard(self.picks, self.picks.choice(self.crews), self.picks.randrange(8))
        self.case.assertIsNone(self.desk.begin(name, journal(yard)))
        self.plain[name] = Plain(yard.crew, yard.steps)
        self.seen["begin"] += 1

    def branch(self, name, entry):
        other = self.picks.choice(NAMES)
        if other in self.plain:
            self.refused(Held, other, self.desk.branch, name, other)
            return
        self.case.assertIsNone(self.desk.branch(name, other))
        self.plain[other] = Plain(entry.crew, entry.steps)
        self.seen["branch with undone ones"] += len(entry.undone) > 0

    def mark(self, name, entry):
        word = self.picks.choice(NAMES[:3])
        self.case.assertIsNone(self.desk.mark(name, word))
        self.seen["marked anew"] += word in entry.marked
        entry.marked[word] = len(entry.steps)

    def back(self, name, entry):
        word = self.picks.choice(NAMES[:3])
        if word not in entry.marked:
            self.refused(NoMark, word, self.desk.back, name, word)
            return
        many = entry.marked[word] - len(entry.steps)
        self.seen["back <" if many < 0 else "back >" if many else "back ="] += 1
        self.case.assertIsNone(self.desk.back(name, word))
        entry.move(entry.marked[word])

    def undo(self, name, entry):
        if not entry.steps:
            self.refused(NothingToUndo, name, self.desk.undo, name)
            return
        self.case.assertIsNone(self.desk.undo(name))
        entry.move(len(entry.steps) - 1)
        self.seen["undo"] += 1

    def redo(self, name, entry):
        if not entry.undone:
            self.refused(NothingToRedo, name, self.desk.redo, name)
            return
        self.case.assertIsNone(self.desk.redo(name))
        entry.move(len(entry.steps) + 1)
        self.seen["redo"] += 1

    def lead(self, name, entry):
        yard = yard_behind(entry.crew, entry.steps)
        step = likely_step(self.picks, yard)
        try:
            yard.step(step)
        except OverError as error:
            self.refused(type(error), error.value, self.desk.lead, name, step)
            self.seen["lead refused"] += 1
            return
        self.case.assertIsNone(self.desk.lead(name, step))
        self.seen["lead over undone ones"] += len(entry.undone) > 0
        for word, number in list(entry.marked.items()):
            if number > len(entry.steps):
                del entry.marked[word]
                self.seen["mark forgotten"] += 1
        entry.undone = []
        entry.steps.append(step)


class Scripts(Case):

    def test_beside_plain_entries(self):
        seen = collections.Counter()
        for at in range(30):
            picks = Picks(200 + at)
            crews = [some_crew(picks, plan) for plan in sound_plans(200 + at, 3)] + [CREW]
            world = Beside(self, picks, crews)
            world.check_yards()
            for name in NAMES[:2]:
                world.begin(name)
            for number in range(120):
                world.do()
                if number % 12 == 0:
                    world.check_yards()
            world.check_yards()
            seen += world.seen
        for kind in ("begin", "drop", "undo", "redo", "branch with undone ones", "marked anew", "back <", "back =",
                     "back >", "lead refused", "lead over undone ones", "mark forgotten"):
            self.assertGreater(seen[kind], 10, kind)

    def test_equal_steps_in_two_entries(self):
        desk = Desk()
        desk.begin("a", "\n".join([JOURNAL, *STEPS]))
        desk.branch("a", "b")
        for _ in range(3):
            desk.undo("a")
        desk.lead("a", ("arrive", 1, ("a", (4,))))
        for word in ("undo", "undo", "redo", "redo"):
            getattr(desk, word)("b")
        for step in (("beat", 0), ("hear", 1, 0)):
            desk.lead("a", step)
        self.alike(shown(desk.yard_of("a")), shown(desk.yard_of("b")))
        self.alike(desk.all_steps("a"), desk.all_steps("b"))


class Cases(Case):

    def setUp(self):
        self.desk = Desk()
        self.desk.begin("a", "\n".join([JOURNAL, *STEPS]))

    def test_the_empty_desk(self):
        desk = Desk()
        self.alike([desk.names, len(desk), desk_text(desk), "a" in desk], [(), 0, "", False])
        self.alike([read_desk("").names, len(read_desk(text="")), desk_text(desk=read_desk(""))], [(), 0, ""])
        self.desk.drop("a")
        self.alike([self.desk.names, desk_text(self.desk)], [(), ""])

    def test_an_entry_without_steps(self):
        desk = Desk()
        desk.begin("z", JOURNAL)
        desk.mark("z", "z")
        text = "entry z 0\nmark z 0\n" + JOURNAL
        self.alike([desk_text(desk), desk_text(read_desk(text)), desk.all_steps("z")], [text, text, ((), ())])
        self.refuses(NothingToUndo, "z", desk.undo, "z")
        self.refuses(NothingToRedo, "z", desk.redo, "z")

    def test_what_is_undone_leaves_nothing(self):
        desk = self.desk
        self.alike(shown(desk.yard_of("a")), shown(yard_behind(CREW, desk.all_steps("a")[0])))
        for many in (3, 2, 1, 0):
            desk.undo("a")
            self.alike([len(rows) for rows in desk.all_steps("a")], [many, 4 - many])
            self.alike(shown(desk.yard_of("a")), shown(yard_behind(CREW, desk.all_steps("a")[0])))
        self.alike(shown(desk.yard_of("a")), shown(Yard(CREW)))
        for many in (1, 2, 3, 4):
            desk.redo("a")
            self.alike(shown(desk.yard_of("a")), shown(yard_behind(CREW, desk.all_steps("a")[0])))
        self.refuses(NothingToRedo, "a", desk.redo, "a")

    def test_marks_behind_steps_that_were_dropped(self):
        desk = self.desk
        for word in ("four", "three", "two"):
            desk.mark("a", word)
            desk.undo("a")
        desk.mark("a", "one")
        self.alike(desk.marks("a"), (("four", 4), ("one", 1), ("three", 3), ("two", 2)))
        desk.back("a", "three")
        self.alike([len(rows) for rows in desk.all_steps("a")], [3, 1])
        # Three steps stood ahead of this one: the mark for three is kept, that for four is forgotten.
        desk.lead("a", ("settle",))
        self.alike(desk.marks("a"), (("one", 1), ("three", 3), ("two", 2)))
        self.refuses(NoMark, "four", desk.back, "a", "four")
        desk.back("a", "one")
        desk.mark("a", "two")
        self.alike(desk.marks("a"), (("one", 1), ("three", 3), ("two", 1)))
        # A step that is refused forgets nothing.
        self.refuses(NoWork, ("a", (0,)), desk.lead, "a", ("deed", 0, ("a", (0,)), ()))
        self.alike([len(rows) for rows in desk.all_steps("a")], [1, 3])
        self.alike(len(desk.marks("a")), 3)
        desk.lead("a", ("beat", 1))
        self.alike(desk.marks("a"), (("one", 1), ("two", 1)))
        desk.branch("a", "b")
        self.alike([desk.marks("b"), desk.all_steps("b")], [(), desk.all_steps("a")])

    def test_a_yard_of_an_entry_goes_on_by_itself(self):
        before = desk_text(self.desk)
        yard, other = self.desk.yard_of("a"), self.desk.yard_of("a")
        yard.deed(1, ("a", (4,)), ())
        yard.settle()
        self.alike([desk_text(self.desk), len(other), len(self.desk.yard_of("a"))], [before, 4, 4])
        self.desk.lead("a", ("go", 0))
        self.alike([yard.hands, other.hands, self.desk.yard_of("a").hands], [(0, 1), (0, 1), (1,)])

    def test_arguments_by_name(self):
        desk = self.desk
        desk.begin(text=JOURNAL, name="x")
        desk.lead(value=("settle",), name="x")
        desk.branch(other="y", name="x")
        desk.mark(word="m", name="y")
        desk.undo(name="y")
        self.alike([desk.marks(name="y"), desk.all_steps(name="y")], [(("m", 1),), ((), (("settle",),))])
        desk.redo(name="y")
        desk.back(word="m", name="y")
        desk.drop(name="x")
        self.alike([desk.names, len(desk.yard_of(name="y"))], [("a", "y"), 1])

    def test_what_is_in_a_desk(self):
        for wrong in NO_ENTRIES:
            self.alike(wrong in self.desk, False)
        self.alike("a" in self.desk, True)


class Errors(Case):

    def setUp(self):
        self.desk = Desk()
        self.desk.begin("a", "\n".join([JOURNAL, *STEPS]))
        self.desk.undo("a")
        self.desk.mark("a", "m")

    def refuses_unchanged(self, error, value, method, *arguments):
        """The call is refused, and the desk stands as it did."""
        before = desk_text(self.desk)
        self.refuses(error, value, method, *arguments)
        self.alike(desk_text(self.desk), before)

    def test_what_is_no_entry_is_refused_ahead_of_all_else(self):
        desk = self.desk
        for wrong in NO_ENTRIES:
            for method in (desk.drop, desk.undo, desk.redo, desk.marks, desk.yard_of, desk.all_steps):
                self.refuses_unchanged(NoEntry, wrong, method, wrong)
            for method in (desk.branch, desk.lead, desk.mark, desk.back):
                for far in (None, "a", "m", ("settle",)):
                    self.refuses_unchanged(NoEntry, wrong, method, wrong, far)

    def test_what_is_no_name(self):
        for wrong in NO_WORDS:
            for text in (JOURNAL, None):
                self.refuses_unchanged(BadEntry, wrong, self.desk.begin, wrong, text)
            self.refuses_unchanged(BadEntry, wrong, self.desk.branch, "a", wrong)
            self.refuses_unchanged(BadEntry, wrong, self.desk.mark, "a", wrong)

    def test_what_is_held(self):
        for text in (JOURNAL, None, ""):
            self.refuses_unchanged(Held, "a", self.desk.begin, "a", text)
        self.refuses_unchanged(Held, "a", self.desk.branch, "a", "a")

    def test_what_is_no_journal(self):
        for wrong, number in ((None, 0), ("", 1), ("place a 1", 2), (JOURNAL + "\nx", 5), ((JOURNAL,), 0), (True, 0)):
            self.refuses_unchanged(BadJournal, number, self.desk.begin, "b", wrong)
        self.alike(self.desk.names, ("a",))

    def test_what_is_no_mark(self):
        for wrong in NEVER + ("", "a", "M", ("m",), ["m"], {"m": 3}, 3, b"m"):
            self.refuses_unchanged(NoMark, wrong, self.desk.back, "a", wrong)

    def test_steps_that_are_refused(self):
        for wrong in NEVER + ((), ["settle"], ("settle", 0), "settle", ("x",)):
            self.refuses_unchanged(BadStep, wrong, self.desk.lead, "a", wrong)
        self.refuses_unchanged(BadHand, 7, self.desk.lead, "a", ("beat", 7))
        self.refuses_unchanged(NoLetter, ("a", (4,)), self.desk.lead, "a", ("arrive", 1, ("a", (4,))))


class Reading(Case):

    def refuses_line(self, number, *rows):
        """The first line that cannot stand there has this number."""
        self.refuses(BadDesk, number, read_desk, "\n".join(rows))

    def text_rows(self):
        """The lines of a desk with three entries: they begin in the lines 1, 12 and 18."""
        rows = ["entry a 2", "mark m 0", "mark n 4", *JOURNAL.split("\n"), *STEPS, "entry b 0", "mark deed 0",
                *JOURNAL.split("\n"), "entry entry 1", *JOURNAL.split("\n"), "settle"]
        self.alike([rows[11], rows[17]], ["entry b 0", "entry entry 1"])
        self.alike(desk_text(read_desk("\n".join(rows))), "\n".join(rows))
        return rows

    def test_what_is_no_text(self):
        for wrong in NEVER:
            if not isinstance(wrong, str):
                self.refuses(BadDesk, 0, read_desk, wrong)
            elif wrong:
                self.refuses(BadDesk, 1, read_desk, wrong)

    def test_each_line_bent(self):
        rows = self.text_rows()
        for at, line in enumerate(rows):
            for wrong in ("", "x", " " + line, line + " ", line + "x", line.replace(" ", "  ", 1) + " ",
                          line + " 0 0 0", line.upper(), "x" + line):
                self.refuses_line(at + 1, *rows[:at], wrong, *rows[at + 1:])
            if at < len(rows) - 1:
                self.refuses_line(at + 2, *rows[:at + 1], "", *rows[at + 1:])

    def test_lines_of_entries_and_marks_of_another_form(self):
        rows = self.text_rows()
        for wrong in ("entry", "entry b", "entry b 00", "entry b -1", "entry B 0", "entry b 0 0", "entry  0",
                      "entry 0 b", "entry b 1234567890", "entry abcdefghi 0", "entry b1 0", "entry b x", "entry a 0",
                      "entry aa 01"):
            self.refuses_line(12, *rows[:11], wrong, *rows[12:])
            self.refuses_line(12, *rows[:11], wrong)
        for wrong in ("entry", "entry a", "entry a 00", "entry a 2 2", "entry A 2", "mark a 2", "place a 1"):
            self.refuses_line(1, wrong, *rows[1:])
        for wrong in ("mark", "mark n", "mark n 04", "mark n -1", "mark n 4 4", "mark N 4", "mark m 4", "mark a 4",
                      "mark n 1234567890", "mark nnnnnnnnn 4", "mark m 0"):
            self.refuses_line(3, *rows[:2], wrong, *rows[3:])

    def test_entries_and_marks_that_do_not_ascend_or_stand_twice(self):
        entry = ["place a 1", "hands 2"]
        self.refuses_line(4, "entry b 0", *entry, "entry a 0", *entry)
        self.refuses_line(4, "entry b 0", *entry, "entry b 0", *entry)
        self.refuses_line(7, "entry a 0", *entry, "entry b 0", *entry, "entry ab 0", *entry)
        self.refuses_line(3, "entry b 0", "mark b 0", "mark b 0", *entry)
        self.refuses_line(3, "entry b 0", "mark b 0", "mark ab 0", *entry)
        # Marks of another entry begin anew.
        self.alike(read_desk("\n".join(["entry a 0", "mark z 0", *entry, "entry b 0", "mark a 0", *entry])).marks("b"),
                   (("a", 0),))
        # A mark behind the journal has begun is no line of it.
        self.refuses_line(3, "entry b 0", "place a 1", "mark b 0", "hands 2")
        self.refuses_line(4, "entry b 0", *entry, "mark b 0")

    def test_a_journal_that_ends_too_soon(self):
        for rows in ([], ["mark m 0"], ["place a 1"], ["mark m 0", "mark n 0", "place a 1", "line a a +0"]):
            many = 1 + len(rows)
            self.refuses_line(many + 1, "entry b 9", *rows)
            self.refuses_line(many + 1, "entry b 0", *rows, "entry c 0", "place a 1", "hands 2")
            self.refuses_line(many + 1, "entry b 0", *rows, "entry", "x")
            self.refuses_line(many + 4, "entry a 0", "place a 1", "hands 2", "entry b 0", *rows)

    def test_numbers_above_all_steps(self):
        rows = self.text_rows()
        for at, most in ((0, 4), (1, 4), (2, 4), (11, 0), (12, 0), (17, 1)):
            begin = rows[at].rpartition(" ")[0]
            for number in range(most + 3):
                bent = [*rows[:at], f"{begin} {number}", *rows[at + 1:]]
                if number <= most:
                    self.alike(desk_text(read_desk("\n".join(bent))), "\n".join(bent))
                else:
                    self.refuses_line(at + 1, *bent)
                    # Lines of later entries are looked at behind this, those of the same entry ahead of it.
                    if at < 11:
                        self.refuses_line(at + 1, *bent[:12], "x", *bent[12:])
                        self.refuses_line(at + 1, *bent[:11], "entry a 0")
                        for line in range(3, 11):
                            self.refuses_line(line + 1, *bent[:line], "x", *bent[line + 1:])
                            self.refuses_line(line + 1, *bent[:line], "", *bent[line:])

    def test_which_number_above_all_steps_is_told(self):
        rows = ["place a 1", "hands 2", "settle"]
        self.refuses_line(1, "entry a 2", "mark m 2", "mark n 2", *rows)
        self.refuses_line(2, "entry a 1", "mark m 2", "mark n 2", *rows)
        self.refuses_line(3, "entry a 0", "mark m 1", "mark n 2", *rows)
        self.refuses_line(4, "entry a 0", "mark m 1", "mark n 1", "mark n 2", *rows)
        self.refuses_line(1, "entry a 999999999", *rows, "entry a 0", *rows)
        self.refuses_line(6, "entry a 1", "mark m 1", *rows, "entry b 2", *rows)

    def test_what_is_read_goes_on(self):
        desk = read_desk("\n".join(self.text_rows()))
        self.alike([desk.names, desk.marks("a"), desk.marks("entry")], [("a", "b", "entry"), (("m", 0), ("n", 4)), ()])
        self.alike([len(rows) for rows in desk.all_steps("a")], [2, 2])
        desk.redo("a")
        self.alike(desk.yard_of("a").steps[-1], ("beat", 0))
        desk.back("a", "n")
        desk.back("a", "m")
        self.alike(shown(desk.yard_of("a")), shown(Yard(CREW)))
        desk.begin("c", JOURNAL)
        self.alike(desk.names, ("a", "b", "c", "entry"))
