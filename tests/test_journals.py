"""Journals (section 18)."""

from beside import Beside, do_any_step, played_yard, shown
from keeping import NAMED, point_text
from support import NEVER, WIDE, Case, Picks, sound_plans
from timesover.crews import Crew
from timesover.errors import BadJournal
from timesover.journals import journal, read_journal
from timesover.plans import Plan
from timesover.yards import Yard
from worlds import some_crew

ROWS = ["place a 1", "line a a +1", "place b 2", "line a b +0 =0", "line b b +0 +1"]
PLAN = Plan("\n".join(ROWS))
CREW_ROWS = ["hands 3", "work 0 a 0", "work 2 b 1 1", "work 0 a 7"]
CREW = Crew(PLAN, "\n".join(CREW_ROWS))
STEP_ROWS = [
    "deed 0 a 0 : 1 b 0 0 : 0 a 1 : 1 b 0 0", "beat 0", "hear 1 0", "arrive 1 b 0 0", "give 0 a 7 : 2", "again 1 0 0",
    "deed 1 b 0 0", "catch_up 2", "fall 2", "come 1 9", "settle", "give 0 a 1 : 9", "go 0", "hear 9 0",
]
LINES = ROWS + CREW_ROWS + STEP_ROWS
STEPS = (
    ("deed", 0, ("a", (0,)), ((1, ("b", (0, 0))), (0, ("a", (1,))), (1, ("b", (0, 0))))), ("beat", 0), ("hear", 1, 0),
    ("arrive", 1, ("b", (0, 0))), ("give", 0, ("a", (7,)), 2), ("again", 1, 0, 0), ("deed", 1, ("b", (0, 0)), ()),
    ("catch_up", 2), ("fall", 2), ("come", 1, 9), ("settle",), ("give", 0, ("a", (1,)), 9), ("go", 0), ("hear", 9, 0),
)


def step_line(step):
    """The line for a step, by the words of the document."""
    if step[0] == "deed":
        _, hand, taken, put = step
        return f"deed {hand} {point_text(taken)}" + "".join(f" : {far} {point_text(point)}" for far, point in put)
    if step[0] == "give":
        return f"give {step[1]} {point_text(step[2])} : {step[3]}"
    if step[0] == "arrive":
        return f"arrive {step[1]} {point_text(step[2])}"
    return " ".join(map(str, step))


def some_yards(seed, many):
    """Yards by a rule, in which steps of all kinds were done."""
    picks = Picks(seed)
    return [played_yard(picks, some_crew(picks, plan), picks.randrange(40)) for plan in sound_plans(seed, many)]


class Texts(Case):

    def test_there_and_back(self):
        words = set()
        for yard in some_yards(190, 50) + [played_yard(Picks(191), CREW, 60)]:
            text = journal(yard)
            rows = [yard.crew.plan.text, yard.crew.text] + [step_line(step) for step in yard.steps]
            self.alike(text, "\n".join(rows))
            again = read_journal(text)
            self.alike(shown(again), shown(yard))
            self.alike(journal(again), text)
            words |= {step[0] for step in yard.steps}
        self.assertEqual(len(words), 11)

    def test_worlds_there_and_back(self):
        for at, plan in enumerate(sound_plans(192, 20)):
            picks = Picks(193 + at)
            world = Beside(self, some_crew(picks, plan))
            for _ in range(30):
                do_any_step(world, picks)
            world.yard = read_journal(journal(world.yard))
            world.check()
            for _ in range(10):
                do_any_step(world, picks)

    def test_each_line_of_a_step(self):
        yard = read_journal(text="\n".join(LINES))
        self.alike([yard.steps, yard.crew, journal(yard=yard)], [STEPS, CREW, "\n".join(LINES)])
        other = Yard(CREW)
        for step in STEPS:
            other.step(step)
        self.alike([shown(yard), journal(other)], [shown(other), "\n".join(LINES)])

    def test_no_steps_and_no_works(self):
        self.alike(journal(Yard(CREW)), "\n".join(ROWS + CREW_ROWS))
        self.alike(journal(read_journal("place a 1\nhands 2")), "place a 1\nhands 2")
        self.alike(read_journal("place a 1\nhands 6\nsettle").steps, (("settle",),))

    def test_places_with_the_names_of_words(self):
        steps = ["deed 0 put 3 : 1 place 3 : 0 put 4", "give 0 put 4 : 1", "arrive 1 place 3", "arrive 1 put 4",
                 "deed 1 place 3 : 0 line 3", "arrive 0 line 3", "deed 0 line 3 : 0 work 5",
                 "deed 0 work 5 : 1 hands 5 0"]
        text = "\n".join([NAMED.text, "hands 2", "work 0 put 3", "work 1 entry 0", "work 1 mark 7", *steps])
        yard = read_journal(text)
        self.alike([journal(yard), len(yard)], [text, 8])
        self.alike(yard.steps[1], ("give", 0, ("put", (4,)), 1))

    def test_numbers_of_forty_figures_and_more(self):
        for part, can_stand in (("9" * 9, True), ("1" * 10, True), ("9" * 40, True), ("1" * 41, False),
                                ("0" * 2, False), ("0" + "1" * 12, False)):
            rows = ["place a 1", "hands 2", "work 0 a 0", f"deed 0 a 0 : 1 a {part}", f"arrive 1 a {part}",
                    f"give 1 a {part} : 0"]
            if can_stand:
                self.alike(journal(read_journal("\n".join(rows))), "\n".join(rows))
                self.alike(read_journal("\n".join(rows)).letters, ((0, ("a", (int(part),))),))
            else:
                self.refuses(BadJournal, 4, read_journal, "\n".join(rows))
        # Numbers of plans and crews have nine figures at most.
        self.refuses(BadJournal, 3, read_journal, "place a 1\nhands 2\nwork 0 a " + "1" * 10)
        self.refuses(BadJournal, 2, read_journal, "place a 1\nline a a +" + "1" * 10 + "\nhands 2")


class Errors(Case):

    def refuses_line(self, number, *rows):
        """The first line that cannot stand there has this number."""
        self.refuses(BadJournal, number, read_journal, "\n".join(rows))

    def test_what_is_no_text(self):
        for wrong in NEVER + ((), tuple(LINES), list(LINES)):
            if not isinstance(wrong, str):
                self.refuses(BadJournal, 0, read_journal, wrong)
            else:
                self.refuses(BadJournal, 1, read_journal, wrong)

    def test_lines_of_the_plan(self):
        self.refuses_line(1, "")
        self.refuses_line(1, "hands 2")
        self.refuses_line(1, "work 0 a 0", "hands 2")
        self.refuses_line(1, "settle")
        self.refuses_line(1, "place")
        self.refuses_line(1, "place ")
        self.refuses_line(1, "line a a +1", "hands 2")
        self.refuses_line(1, " place a 1", "hands 2")
        self.refuses_line(1, "placea 1", "hands 2")
        self.refuses_line(2, "place a 1", "place a 1", "hands 2")
        self.refuses_line(2, "place a 1", "line a b +1", "place b 1", "hands 2")
        self.refuses_line(2, "place a 1", "placeb 1", "hands 2")
        self.refuses_line(2, "place a 1", "line", "x")
        self.refuses_line(13, *[f"place {letter} 1" for letter in "abcdefghijklm"], "hands 2")
        self.refuses_line(26, "place a 1", *["line a a +1"] * 25, "hands 2")
        for at in range(len(ROWS)):
            self.refuses_line(at + 1, *ROWS[:at], ROWS[at] + " x", *LINES[at + 1:])
            self.refuses_line(at + 1, *ROWS[:at], ROWS[at].replace(" ", "  ", 1), *LINES[at + 1:])

    def test_lines_of_a_plan_alone(self):
        for rows in (["place a 1"], ROWS, ["place a 1", "line a a +0"], WIDE.text.split("\n")):
            self.refuses_line(len(rows) + 1, *rows)
            # An empty line is one line more, which cannot stand.
            self.refuses_line(len(rows) + 1, *rows, "")
        self.refuses_line(2, "place a 1", "line a b +1")

    def test_the_line_of_the_hands(self):
        for wrong in ("", "hands", "hands 1", "hands 7", "hands 02", "hands 2 ", "hands  2", "hands 2 2", " hands 2",
                      "Hands 2", "work 0 a 0", "settle", "beat 0", "entry a 1", "mark a 1"):
            self.refuses_line(6, *ROWS, wrong, *LINES[6:])
            self.refuses_line(6, *ROWS, wrong)
        # With a plan that is not sound, or has a table of more than 200 shifts, it cannot stand.
        for rows in (["place a 1", "line a a +0"], WIDE.text.split("\n")):
            for behind in (["hands 2"], ["hands 2", "work 0 x 0"], ["x"], ["hands 2", "settle"]):
                self.refuses_line(len(rows) + 1, *rows, *behind)

    def test_lines_of_the_crew(self):
        for wrong in ("work", "work 0", "work 3 a 0", "work 0 c 0", "work 0 a", "work 0 a 0 0", "work 0 b 0",
                      "work 0 a 00", "work 0 a -1", "work 0 a 1 ", "work True a 0", "work 0 a 1234567890"):
            self.refuses_line(7, *ROWS, "hands 3", wrong, *LINES[7:])
            self.refuses_line(9, *LINES[:8], wrong, *LINES[8:])
        works = ["work 0 a 0"] * 40
        self.alike(len(read_journal("\n".join([*ROWS, "hands 3", *works, "settle"])).works), 40)
        self.refuses_line(47, *ROWS, "hands 3", *works, "work 0 a 0", "settle")
        # Behind another line a work is none of the crew any more, and no step.
        self.refuses_line(8, *ROWS, "hands 3", "settle", "work 0 a 0")
        self.refuses_line(7, *ROWS, "hands 3", "hands 3")
        self.refuses_line(7, *ROWS, "hands 3", "place c 1")
        self.refuses_line(7, *ROWS, "hands 3", "")

    def test_each_line_of_a_step_bent(self):
        begun = len(ROWS + CREW_ROWS)
        for at, line in enumerate(STEP_ROWS):
            words = line.split(" ")
            bent = ["", "x", line + " ", " " + line, line + " 0", line + " :", line.upper(), words[0] + "x",
                    "x " + line, line.replace(" ", "  ", 1) + " ", line + " : ", line + " : 0", line + " : 0 a 5 : ",
                    words[0] + " :"]
            if len(words) > 1:
                bent += [words[0], " ".join(words[:-1] + ["0" + words[-1]]), " ".join([words[0], "8", *words[2:]]),
                         " ".join([words[0], "-1", *words[2:]]), " ".join([words[0], "True", *words[2:]]),
                         " ".join([words[0], *words[2:]]), " ".join(words[:-1]),
                         " ".join(words[:-1] + ["+" + words[-1]])]
            for wrong in bent:
                self.refuses_line(begun + at + 1, *LINES[:begun + at], wrong, *LINES[begun + at + 1:])
                self.refuses_line(begun + at + 1, *LINES[:begun + at], wrong)

    def test_steps_of_another_form(self):
        for wrong in ("deed 0 a 0 : 0 a", "deed 0 a 0 : a 1", "deed 0 a 0 : 0 c 1", "deed 0 a 0:", "deed 0 a 0 0 a 1",
                      "deed 0 a 0 : 0 a 1 2", "deed 0 a 0 : 0 a 1 :", "deed 0 a 0 : : 0 a 1", "deed 0 a", "deed a 0",
                      "deed 0 a 0 put a 1", "deed 0 a 0 : 0 b 0", "give 0 a 0", "give 0 a 0 : 1 : 2", "give 0 a 0 1",
                      "give 0 a 0 : 1 a 0", "give 0 : 1", "give : 1", "arrive 0 a 0 : 1", "arrive 0", "hear 0",
                      "hear 0 a", "again 0 1", "come 0", "come 0 3 4", "beat", "beat 0 1", "settle 0", "counts 0",
                      "step", "copy", "front 0 a", "entry x 0", "mark x 0", "DEED 0 a 0", "deed\t0 a 0", ": 0 a 1"):
            self.refuses_line(10, *LINES[:9], wrong)
            self.refuses_line(10, *LINES[:9], wrong, *LINES[9:])

    def test_steps_that_are_refused(self):
        for wrong in ("deed 1 a 0", "deed 0 a 1", "deed 0 a 0 : 0 a 0", "deed 0 a 0 : 5 a 1",
                      "deed 0 a 0 : 0 b 0 0 : 3 a 9", "deed 0 a 0" + " : 0 a 1" * 13, "give 0 a 0 : 0",
                      "give 0 a 0 : 3", "give 1 a 0 : 0", "arrive 0 a 0", "hear 0 0", "hear 0 3", "again 0 1 0",
                      "come 0 1", "come 0 10", "come 3 4", "go 0", "go 2", "beat 3", "fall 3", "catch_up 3"):
            self.refuses_line(10, *LINES[:9], wrong)
            self.refuses_line(11, *LINES[:9], "beat 0", wrong, "x")
        self.alike(len(read_journal("\n".join(LINES[:9] + ["deed 0 a 0" + " : 0 a 1" * 12]))), 1)
