"""Logs (section 17)."""

import collections

from keeping import NAMED, Keeper, Truth, row_text
from support import NEVER, NO_NAMES, NO_TIMES_AT_B, Case, Picks, all_ways, points_of, sound_plans
from timesover.crews import Crew
from timesover.errors import BadHand, BadLog, BadName, BadNumber, BadTime
from timesover.fronts import is_over
from timesover.logs import (
    Log, first_exact, first_true, is_lacking, judged_log, log_counts, log_lags, log_works, shows_judged_log,
)
from timesover.plans import Plan
from timesover.shifts import shifted
from timesover.times import is_before
from timesover.ways import way_points, way_shift
from worlds import some_crew

ROWS = ["place a 1", "place b 2", "place c 1", "line a b +0 =0", "line b b +0 +1", "line b c +0", "line c a +1"]
PLAN = Plan("\n".join(ROWS))
CREW = Crew(PLAN, "hands 3\nwork 0 a 0\nwork 2 b 1 1")
LINES = ["deed 0 a 0 put b 0 0 put b 0 2", "deed 1 b 0 2 put c 0", "told 1", "hear 2 1", "over 2 a 0", "open 2 b 1 1",
         "told 0", "deed 0 b 1 1", "told 0", "hear 2 0", "hear 1 0", "over 1 a 0", "hear 2 0", "open 0 c 0"]
LOG = Log(CREW, "\n".join(LINES))


def keepers(seed, many, most=40, **limits):
    """Keepers of crews by a rule, each with a log of some rows."""
    picks = Picks(seed)
    plans = sound_plans(seed, many, **limits) + [PLAN] * (many // 4)
    rows = []
    for at, plan in enumerate(plans):
        keeper = Keeper(Picks(seed * 1000 + at), some_crew(picks, plan))
        keeper.keep(picks.randint(1, most))
        rows.append(keeper)
    return rows


def with_lies(picks, keeper):
    """A log of the keeper's rows in which some books say the contrary, or what nobody asked."""
    rows, points = list(keeper.rows), points_of(keeper.crew.plan, 4)
    for _ in range(picks.randint(0, 3)):
        at = picks.randrange(len(rows))
        if rows[at][0] in ("over", "open"):
            rows[at] = ("open" if rows[at][0] == "over" else "over", *rows[at][1:])
        else:
            hand, point = picks.randrange(keeper.crew.hands), picks.choice(points)
            rows.insert(at + 1, (picks.choice(("over", "open")), hand, *point))
    return Log(keeper.crew, "\n".join(map(row_text, rows)))


def judged(log):
    """What is wrong with the first row that is, and by which reason; of an unsafe one all works that could come."""
    for number, row in enumerate(log.rows):
        if row[0] not in ("over", "open"):
            continue
        word, hand, *point = row
        truth = Truth(log.crew, log.rows[:number])
        comers = truth.comers(truth.works, point)
        elders = [at for at, far in enumerate(log.rows[:number])
                  if far[:3] == ("over", hand, point[0]) and is_before(point[1], far[3])]
        if word == "over" and comers:
            return ("unsafe", number, comers)
        if word == "open" and elders:
            return ("back", number, elders[0])
        if not truth.lacks(hand) and (word == "over") == bool(truth.comers(truth.counted(hand), point)):
            return ("inexact", number)
    return ("fine",)


class Rows(Case):

    def test_rows_and_texts(self):
        for keeper in keepers(180, 40):
            log = Log(keeper.crew, keeper.text())
            self.alike([log.crew, log.text, log.rows, len(log)],
                       [keeper.crew, keeper.text(), tuple(keeper.rows), len(keeper.rows)])

    def test_places_with_the_names_of_words(self):
        crew = Crew(NAMED, "hands 2\nwork 0 put 3\nwork 1 hands 1 2")
        rows = (("deed", 0, ("put", (3,)), (("place", (3,)), ("put", (4,)), ("put", (5,)))),
                ("deed", 1, ("hands", (1, 2)), (("entry", (1,)),)), ("deed", 0, ("place", (3,)), (("line", (4,)),)),
                ("deed", 0, ("line", (4,)), (("work", (4,)),)), ("deed", 1, ("put", (4,)), ()), ("told", 1),
                ("hear", 0, 1), ("over", 0, "put", (0,)), ("open", 0, "mark", (1,)), ("open", 1, "hands", (4, 0)))
        log = Log(crew, "\n".join(map(row_text, rows)))
        self.alike(log.rows, rows)
        self.alike(log.text.split("\n")[0], "deed 0 put 3 put place 3 put put 4 put put 5")
        for wrong in ("deed 0 put 3 put", "deed 0 put 3 put put", "deed 0 put put 3", "deed 0 put 3 put 4",
                      "deed 0 put 3 put put 4 put", "deed 0 put 3 put put 4 5", "deed 0 put 3 4", "deed 0 put",
                      "deed 0 put 3 put hands 3", "deed 0 put 3 place 3", "deed 0 put 3 put put 5 put put 4",
                      "deed 0 put 3 x place 3", "deed 0 put 3 : place 3", "deed 0 put 3 place place 3",
                      "deed 0 put 3 put place 3 x put 4"):
            self.refuses(BadLog, 1, Log, crew, wrong)

    def test_equal_logs(self):
        other = Log(Crew(Plan("\n".join(ROWS)), CREW.text), LOG.text)
        self.assertTrue(LOG == other and not LOG != other)
        for far in (Log(CREW, LOG.text + "\nopen 0 c 0"), Log(Crew(PLAN, CREW.text + "\nwork 0 a 0"), LOG.text),
                    Log(Crew(Plan(PLAN.text + "\nplace d 1"), CREW.text), LOG.text), LOG.text, LOG.rows, CREW, None):
            self.assertTrue(LOG != far and not LOG == far)
        self.alike(judged_log(other), judged_log(LOG))

    def test_what_is_looked_at(self):
        log = Log(text="\n".join(LINES), crew=CREW)
        self.alike(log_works(many=1, log=log), (("b", (0, 0)), ("b", (0, 2)), ("b", (1, 1))))
        self.alike(log_counts(hand=2, many=4, log=log),
                   ((("a", (0,)), 1), (("b", (0, 2)), -1), (("b", (1, 1)), 1), (("c", (0,)), 1)))
        self.alike([is_lacking(hand=2, many=4, log=log), is_lacking(log, 3, 2)], [True, False])
        self.alike(log_counts(log, 8, 1), ((("a", (0,)), 1), (("b", (0, 2)), -1), (("b", (1, 1)), 1), (("c", (0,)), 1)))
        self.alike(log_counts(log, 13, 2), ((("b", (0, 0)), 1), (("c", (0,)), 1)))
        self.alike([log_works(log, 14), log_works(log, 0)],
                   [(("b", (0, 0)), ("c", (0,))), (("a", (0,)), ("b", (1, 1)))])
        self.alike([judged_log(log=log), shows_judged_log(value=judged_log(log), log=log)][1], True)
        self.alike([first_true(time=(0,), place="a", log=log), first_exact(time=(0,), place="a", hand=2, log=log)],
                   [1, 10])
        self.alike(log_lags(log=log), ((4, 1), (11, 1)))


class Counts(Case):

    def test_by_going_through_the_rows(self):
        lacking = 0
        for keeper in keepers(181, 40):
            log = Log(keeper.crew, keeper.text())
            for many in range(len(log) + 1):
                truth = Truth(keeper.crew, keeper.rows[:many])
                self.alike(log_works(log, many), truth.works)
                for hand in range(keeper.crew.hands):
                    counts = tuple(sorted((point, count) for point, count in truth.counts[hand].items() if count))
                    self.alike(log_counts(log, many, hand), counts)
                    self.alike(is_lacking(log, many, hand), truth.lacks(hand))
                    lacking += truth.lacks(hand)
        self.assertGreater(lacking, 100)

    def test_when_all_is_told_and_heard(self):
        for keeper in keepers(182, 40):
            keeper.settle()
            log = Log(keeper.crew, keeper.text())
            works = log_works(log, len(log))
            self.alike(works, tuple(sorted(keeper.works)))
            for hand in range(keeper.crew.hands):
                self.alike(is_lacking(log, len(log), hand), False)
                counts = log_counts(log, len(log), hand)
                self.alike(tuple(point for point, count in counts for _ in range(count)), works)


class Judged(Case):

    def test_what_the_books_of_the_package_say_is_fine(self):
        for keeper in keepers(183, 60, most=60):
            log = Log(keeper.crew, keeper.text())
            self.alike([judged_log(log), judged(log)], [("fine",)] * 2)
            self.alike(shows_judged_log(log, ("fine",)), True)

    def test_lies_by_each_of_the_three_reasons(self):
        picks, seen = Picks(184), collections.Counter()
        for keeper in keepers(184, 250):
            log = with_lies(picks, keeper)
            told, wanted = judged_log(log), judged(log)
            seen[wanted[0]] += 1
            if wanted[0] == "unsafe":
                self.alike(told[:2], wanted[:2])
                self.assertIn(told[2], wanted[2])
                point = log.rows[told[1]][2:]
                end, time = way_points(log.crew.plan, told[2], told[3])[-1]
                self.assertTrue(end == point[0] and is_before(time, point[1]))
            else:
                self.alike(told, wanted)
            self.check_shows(log, told, wanted)
        for word in ("fine", "unsafe", "back", "inexact"):
            self.assertGreater(seen[word], 15, word)

    def check_shows(self, log, told, wanted):
        """shows_judged_log takes all right values, and no other ones."""
        self.alike(shows_judged_log(log, told), True)
        for wrong in (("fine",), ("unsafe",), ("back", 0, 0), ("inexact", 0), (*told, None), told[:-1], list(told),
                      (told,), told[0], ("back", *told[1:]), ("inexact", *told[1:])):
            if wrong != told:
                self.alike(shows_judged_log(log, wrong), False)
        for at in range(1, len(told)):
            for far in (None, -1, 400, 0, True, False, (), ("a", (0,)), str(told[at])):
                value = (*told[:at], far, *told[at + 1:])
                self.alike(shows_judged_log(log, value), self.is_right(log, value, wanted))
        if wanted[0] == "unsafe":
            self.check_works_and_ways(log, wanted)

    def check_works_and_ways(self, log, wanted):
        """Of an unsafe row each work that could come is taken, with each way that leads it there."""
        plan, rights = log.crew.plan, 0
        for work in points_of(plan, 4) + list(wanted[2]):
            for way, _ in all_ways(plan, work[0], 2):
                value = ("unsafe", wanted[1], work, way)
                is_right = self.is_right(log, value, wanted)
                rights += is_right
                self.alike(shows_judged_log(log, value), is_right)
        return rights

    def is_right(self, log, value, wanted):
        """Whether the value, which has the form of a right one, is one."""
        if any(isinstance(part, bool) for part in value) or wanted[0] != "unsafe":
            return value == wanted and not any(isinstance(part, bool) for part in value)
        word, number, work, way = value
        if (word, number) != wanted[:2] or work not in wanted[2] or not isinstance(way, tuple):
            return False
        plan, (place, time) = log.crew.plan, log.rows[number][2:]
        ways = [known for known, end in all_ways(plan, work[0], max(len(way), 1)) if end == place]
        return way in ways and is_before(shifted(way_shift(plan, work[0], way), work[1]), time)

    def test_the_first_reason_that_is_so_is_told(self):
        crew = Crew(Plan("place a 1\nplace b 1\nline a b +1"), "hands 2\nwork 0 a 0\nwork 0 a 5")
        rows = ["over 1 a 7", "open 1 a 3"]
        log = Log(crew, "\n".join(rows))
        self.alike(judged_log(log)[:2], ("unsafe", 0))
        for work in (("a", (0,)), ("a", (5,))):
            self.alike(shows_judged_log(log, ("unsafe", 0, work, ())), True)
        # Said over when hand 1 had not heard of the deeds, by luck true: it is inexact, and nothing lacks.
        rows = ["deed 0 a 0", "deed 0 a 5", "over 1 b 5", "open 1 b 4"]
        self.alike(judged_log(Log(crew, "\n".join(rows))), ("inexact", 2))
        rows[2:2] = ["told 0", "hear 1 0"]
        self.alike(judged_log(Log(crew, "\n".join(rows))), ("back", 5, 4))
        rows[4:5] = ["over 0 b 9", "over 1 a 9", "over 1 b 3", "over 1 b 4", "over 1 b 4"]
        self.alike(judged_log(Log(crew, "\n".join(rows))), ("back", 9, 7))
        rows[-1] = "open 1 b 5"
        self.alike(judged_log(Log(crew, "\n".join(rows))), ("inexact", 9))
        rows[-1] = "over 1 b 5"
        self.alike(judged_log(Log(crew, "\n".join(rows))), ("fine",))

    def test_open_that_is_inexact_though_it_is_not_back(self):
        crew = Crew(Plan("place a 1\nline a a +1"), "hands 2\nwork 0 a 3")
        self.alike(judged_log(Log(crew, "open 1 a 3\nover 1 a 2\nopen 0 a 2")), ("inexact", 2))
        # While something lacks for hand 1 it may call open what it has not called over.
        rows = ["deed 0 a 3 put a 4", "told 0", "hear 1 0", "deed 1 a 4", "told 1", "open 0 a 4", "hear 0 1"]
        self.alike(judged_log(Log(crew, "\n".join(rows))), ("fine",))
        self.alike(judged_log(Log(crew, "\n".join(rows + ["open 0 a 4"]))), ("inexact", 7))

    def test_while_something_lacks(self):
        crew = Crew(Plan("place a 1\nplace b 1\nline a b +0"), "hands 3\nwork 0 a 0")
        rows = ["deed 0 a 0 put b 0", "deed 1 b 0", "told 1", "hear 2 1"]
        for more in (["open 2 b 0"], ["over 2 b 0"], ["open 2 a 0"], ["over 2 a 0"], ["over 2 b 0", "over 2 a 9"]):
            self.alike(judged_log(Log(crew, "\n".join(rows + more))), ("fine",))
        self.alike(judged_log(Log(crew, "\n".join(rows + ["over 2 b 2", "open 2 b 1"]))), ("back", 5, 4))
        self.alike(judged_log(Log(crew, "\n".join(rows + ["open 1 b 1"]))), ("fine",))
        # Behind them both nothing lacks for hand 2.
        rows += ["told 0", "hear 2 0"]
        self.alike(judged_log(Log(crew, "\n".join(rows + ["open 2 b 1"]))), ("inexact", 6))

    def test_a_way_of_more_than_1000_lines_is_not_taken(self):
        crew = Crew(Plan("place a 1\nplace b 1\nline a a +1\nline a b +0"), "hands 2\nwork 0 a 0")
        log = Log(crew, "over 1 b 2000")
        self.alike(judged_log(log), ("unsafe", 0, ("a", (0,)), (1,)))
        for many in (0, 1, 999, 1000):
            self.alike(shows_judged_log(log, ("unsafe", 0, ("a", (0,)), (0,) * many + (1,))), many < 1000)


class Firsts(Case):

    def test_against_all_numbers_of_rows(self):
        seen = collections.Counter()
        for keeper in keepers(185, 50, most=30):
            log, plan = Log(keeper.crew, keeper.text()), keeper.crew.plan
            truths = [Truth(keeper.crew, keeper.rows[:many]) for many in range(len(log) + 1)]
            for point in points_of(plan, 3):
                trues = [many for many, truth in enumerate(truths) if is_over(plan, truth.works, *point)]
                # What is over behind some rows is over behind all further ones.
                self.assertEqual(trues, list(range(len(truths)))[len(truths) - len(trues):])
                since = first_true(log, *point)
                self.alike(since, trues[0] if trues else None)
                for hand in range(keeper.crew.hands):
                    exacts = [many for many, truth in enumerate(truths)
                              if not truth.lacks(hand) and not truth.comers(truth.counted(hand), point)]
                    told = first_exact(log, hand, *point)
                    self.alike(told, exacts[0] if exacts else None)
                    seen[told is None, since is None] += 1
                    if told is not None:
                        self.assertLessEqual(since, told)
                        seen["late"] += since < told
        self.alike(seen[False, True], 0)
        self.assertGreater(min(seen[True, True], seen[True, False], seen[False, False], seen["late"]), 20)

    def test_lags(self):
        picks, many = Picks(186), 0
        for keeper in keepers(186, 80):
            log = with_lies(picks, keeper)
            wanted = []
            for number, row in enumerate(log.rows):
                if row[0] == "over" and is_over(log.crew.plan, log_works(log, number), *row[2:]):
                    wanted.append((number, first_true(log, *row[2:])))
            self.alike(log_lags(log), tuple(wanted))
            many += len(wanted)
        self.assertGreater(many, 100)


class Errors(Case):

    def test_what_is_no_text_is_refused(self):
        for wrong in NEVER + ((), ("open 0 a 0",), ["open 0 a 0"]):
            if not isinstance(wrong, str):
                self.refuses(BadLog, 0, Log, CREW, wrong)
        self.refuses(BadLog, 1, Log, CREW, "")

    def test_each_line_bent(self):
        for at, line in enumerate(LINES):
            words = line.split(" ")
            bent = ["", " " + line, line + " ", line + " 0", line.upper(), line.replace(" ", "  ", 1), words[0],
                    line[1:], line + "\t", "x" + line, " ".join(words[:-1]), " ".join([words[0], "3", *words[2:]]),
                    " ".join([words[0], "-1", *words[2:]]), " ".join([words[0], "00", *words[2:]]),
                    " ".join([words[0], "+0", *words[2:]]), " ".join([words[0], "True", *words[2:]])]
            if words[0] in ("deed", "over", "open"):
                bent += [" ".join([*words[:2], "d", *words[3:]]), " ".join([*words[:2], *words[3:]]),
                         *[" ".join([*words[:-1], part]) for part in ("01", "1" * 10, "-1")]]
            for wrong in bent:
                text = "\n".join([*LINES[:at], wrong, *LINES[at + 1:]])
                self.refuses(BadLog, at + 1, Log, CREW, text)
                self.refuses(BadLog, at + 1, Log, CREW, "\n".join([*LINES[:at], wrong]))
                self.refuses(BadLog, at + 1, Log, CREW, "\n".join([*LINES[:at], wrong, "x", "told 2"]))

    def test_what_cannot_stand_behind_the_rows_ahead_of_it(self):
        for number, lines in (
            (1, ["told 0"]), (1, ["hear 0 1"]), (2, ["deed 0 a 0", "hear 1 0"]),
            (3, ["deed 0 a 0", "told 0", "told 0"]), (3, ["deed 0 a 0", "told 0", "hear 0 0"]),
            (4, ["deed 0 a 0", "told 0", "hear 1 0", "hear 1 0"]),
            (3, ["deed 0 a 0", "told 0", "hear 1 2"]), (2, ["deed 0 a 0", "deed 1 a 0"]), (1, ["deed 0 b 0 0"]),
            (2, ["deed 0 a 0", "told 1"]), (1, ["deed 0 c 0 put a 1"]), (3, ["deed 0 a 0 put b 0 0", "deed 2 b 0 0",
                                                                            "deed 2 b 0 0"]),
            (1, ["deed 0 a 0 put a 0"]), (1, ["deed 0 a 0 put b 0 1 put b 0 0"]), (1, ["deed 0 a 0 put c 9"]),
            (1, ["deed 0 a 0" + " put a 1" * 13]), (1, ["deed 2 b 1 1 put b 1 0"]),
            (1, ["deed 0 a 0 put b 1 0 put a 5"]),
        ):
            self.refuses(BadLog, number, Log, CREW, "\n".join(lines))
            self.refuses(BadLog, number, Log, CREW, "\n".join(lines + ["told 2", ""]))
        for lines in (["deed 0 a 0" + " put a 1" * 12], ["deed 1 a 0 put a 5 put b 1 0"], ["deed 1 b 1 1", "told 1"],
                      ["deed 0 a 0", "deed 0 b 1 1", "told 0", "hear 1 0", "hear 2 0"], ["over 0 a 999999999"]):
            self.alike(len(Log(CREW, "\n".join(lines))), len(lines))

    def test_400_lines_and_401(self):
        lines = ["open 0 a 0"] * 400
        self.alike([len(Log(CREW, "\n".join(lines))), judged_log(Log(CREW, "\n".join(lines)))], [400, ("fine",)])
        for more in (["open 0 a 0"], ["x"], [""], ["x"] * 3):
            self.refuses(BadLog, 401, Log, CREW, "\n".join(lines + more))
        self.refuses(BadLog, 17, Log, CREW, "\n".join(lines[:16] + ["told 0"] + lines))
        self.refuses(BadLog, 400, Log, CREW, "\n".join(lines[:399] + ["told 0"] + lines))

    def test_what_is_no_number_of_rows(self):
        wrongs = tuple(value for value in NEVER if isinstance(value, bool) or value not in (0, 1, 2, 5)) + (
            (), (3,), -2, 15, "3")
        for wrong in wrongs:
            self.refuses(BadNumber, wrong, log_works, LOG, wrong)
            for function in (log_counts, is_lacking):
                self.refuses(BadNumber, wrong, function, LOG, wrong, 0)
                self.refuses(BadNumber, wrong, function, LOG, wrong, None)
        for many in range(15):
            self.alike(type(log_works(LOG, many)), tuple)

    def test_what_is_no_hand_no_name_no_time(self):
        wrongs = tuple(value for value in NEVER if isinstance(value, bool) or value not in (0, 1, 2))
        wrongs += ((), (0,), "0", 3)
        for wrong in wrongs:
            for function in (log_counts, is_lacking):
                self.refuses(BadHand, wrong, function, LOG, 14, wrong)
            self.refuses(BadHand, wrong, first_exact, LOG, wrong, "a", (0,))
            self.refuses(BadHand, wrong, first_exact, LOG, wrong, None, None)
        for wrong in NO_NAMES:
            for time in ((0,), None):
                self.refuses(BadName, wrong, first_true, LOG, wrong, time)
                self.refuses(BadName, wrong, first_exact, LOG, 0, wrong, time)
        for wrong in NO_TIMES_AT_B:
            self.refuses(BadTime, wrong, first_true, LOG, "b", wrong)
            self.refuses(BadTime, wrong, first_exact, LOG, 1, "b", wrong)

    def test_what_judged_log_never_returns(self):
        for log in (LOG, Log(CREW, "over 0 a 0"), Log(CREW, "over 0 a 0\nopen 0 a 0"), Log(CREW, "open 0 c 9")):
            for wrong in NEVER + ((), ["fine"], ("fine", 0), ("unsafe",), ("unsafe", 0), ("unsafe", 0, None, None),
                                  ("unsafe", 0, ["a", (0,)], ()), ("unsafe", 0, ("a", (0,)), []),
                                  ("unsafe", 0, ("a", [0]), ()), (["unsafe"], 0, ("a", (0,)), ()),
                                  ("unsafe", False, ("a", (0,)), ()), ("unsafe", 0, ("a", (False,)), ())):
                self.alike(shows_judged_log(log, wrong), False)
