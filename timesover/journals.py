"""Journals: yards as texts, and back."""

from timesover.basics import is_long_numeral
from timesover.crews import Crew
from timesover.errors import BadCrew, BadJournal, BadPlan, NotSound, OverError, TooMany
from timesover.plans import Plan
from timesover.texts import point_words, told_point
from timesover.yards import Yard

MOST_STEP_FIGURES = 40
BESIDE = " : "


def journal(yard):
    """The text of the yard's plan, of its crew, and of its steps."""
    return journal_text(yard.crew, yard.steps)


def read_journal(text):
    """The yard in which all steps of the journal were done."""
    if not isinstance(text, str):
        raise BadJournal(0)
    rows = text.split("\n")
    begun = first_other(rows, 0, ("place", "line"))
    plan = read_plan(rows[:begun])
    # Where nothing stands behind the plan no crew can be read, and what is told is the line behind the last one.
    ahead = first_other(rows, begun + 1, ("work",))
    yard = Yard(read_crew(plan, rows[begun:ahead], begun))
    for number, row in enumerate(rows[ahead:], start=ahead + 1):
        do_row(yard, row, number)
    return yard


def journal_text(crew, steps):
    """The journal of a yard of this crew in which just these steps were done."""
    return "\n".join([crew.plan.text, crew.text, *[step_row(step) for step in steps]])


def first_other(rows, begun, words):
    """The number, from 0, of the first row from this one on whose first word is none of these; that of all if none."""
    at = begun
    while at < len(rows) and rows[at].split(" ")[0] in words:
        at += 1
    return at


def read_plan(rows):
    """The plan of these rows, the first ones of a journal."""
    try:
        return Plan("\n".join(rows))
    except BadPlan as error:
        raise BadJournal(error.value)


def read_crew(plan, rows, ahead):
    """The crew of these rows, which stand behind so many others."""
    try:
        return Crew(plan, "\n".join(rows))
    except (NotSound, TooMany):
        raise BadJournal(ahead + 1)
    except BadCrew as error:
        raise BadJournal(ahead + error.value)


def do_row(yard, row, number):
    """Does the step that the row with this number tells; what is told of a row of another form is no step."""
    try:
        yard.step(told_step(yard.crew.plan, row))
    except OverError:
        raise BadJournal(number)


def step_row(step):
    """The line for a step."""
    if step[0] == "deed":
        _, hand, taken, put = step
        return "deed " + BESIDE.join([held_words(hand, taken), *[held_words(other, point) for other, point in put]])
    if step[0] == "give":
        _, hand, point, other = step
        return "give " + held_words(hand, point) + BESIDE + str(other)
    if step[0] == "arrive":
        return "arrive " + held_words(step[1], step[2])
    return " ".join([str(part) for part in step])


def held_words(hand, point):
    """The words for a hand and a point."""
    return str(hand) + " " + point_words(point)


def told_step(plan, row):
    """The step that a line tells; None if it has another form than that of any step."""
    word, _, rest = row.partition(" ")
    if word == "deed":
        held = [told_held(plan, words) for words in rest.split(BESIDE)]
        return None if None in held else ("deed", *held[0], tuple(held[1:]))
    if word == "give":
        words, _, other = rest.partition(BESIDE)
        held = told_held(plan, words)
        return ("give", *held, int(other)) if held is not None and is_step_number(other) else None
    if word == "arrive":
        held = told_held(plan, rest)
        return ("arrive", *held) if held is not None else None
    words = row.split(" ")[1:]
    return (word, *[int(part) for part in words]) if all([is_step_number(part) for part in words]) else None


def told_held(plan, text):
    """The hand and the point that a part of a line tells; None if it tells none."""
    words = text.split(" ")
    point = told_point(plan, words[1:], MOST_STEP_FIGURES)
    return (int(words[0]), point) if is_step_number(words[0]) and point is not None else None


def is_step_number(word):
    """Whether a word is a number as lines of steps have it."""
    return is_long_numeral(word, MOST_STEP_FIGURES)
