"""Logs: what was kept of a whole crew, and whether what its books said was right."""

from timesover.basics import MOST_FIGURES, is_integer
from timesover.crews import check_hand, is_hand_word, is_put
from timesover.errors import BadLog, BadNumber
from timesover.plans import check_place, check_time_at, is_point
from timesover.reach import does_come
from timesover.scenes import (
    DEED, HEAR, TOLD, Scene, can_follow, counts_of, is_lacking_for, is_over_by_counts, is_over_for_all, lead,
    scene_behind, works_of,
)
from timesover.tables import could_come, shows_could_come
from timesover.texts import told_point
from timesover.times import is_at_most

MOST_ROWS = 400
OVER = "over"
OPEN = "open"
FINE = ("fine",)
UNSAFE = "unsafe"


class Log:
    """The log of a crew that a text tells."""

    def __init__(self, crew, text):
        if not isinstance(text, str):
            raise BadLog(0)
        rows = log_rows(crew, text)
        self.crew = crew
        self.text = text
        self.rows = rows

    def __len__(self):
        return len(self.rows)

    def __eq__(self, other):
        return isinstance(other, Log) and self.crew == other.crew and self.text == other.text


def log_rows(crew, text):
    """The rows that a text tells; BadLog for the first of its lines that cannot stand."""
    scene = Scene(crew)
    rows = []
    for number, line in enumerate(text.split("\n"), start=1):
        row = told_row(crew, line.split(" "))
        if len(rows) == MOST_ROWS or row is None or not can_follow(scene, row):
            raise BadLog(number)
        lead(scene, row)
        rows.append(row)
    return tuple(rows)


def told_row(crew, words):
    """The row that the words of a line tell; None if they tell none, whatever the rows ahead of it are."""
    if len(words) < 2 or not is_hand_word(words[1], crew.hands):
        return None
    word, hand = words[0], int(words[1])
    if word == TOLD:
        return (TOLD, hand) if len(words) == 2 else None
    if word == HEAR:
        return (HEAR, hand, int(words[2])) if len(words) == 3 and is_hand_word(words[2], crew.hands) else None
    if word == DEED:
        return told_deed(crew.plan, hand, words[2:])
    point = told_point(crew.plan, words[2:], MOST_FIGURES)
    return (word, hand, *point) if word in (OVER, OPEN) and point is not None else None


def told_deed(plan, hand, words):
    """The row of a deed of this hand; None if the words are not those of a point taken, and of what is put for it."""
    points = []
    rest = ["put", *words]
    while rest:
        # Names do not part the points, as a place can have the name put, too: their depths do.
        many = 2 + dict(plan.places).get(rest[1], 0) if len(rest) > 1 else 0
        point = told_point(plan, rest[1:many], MOST_FIGURES)
        if rest[0] != "put" or point is None:
            return None
        points.append(point)
        rest = rest[many:]
    taken, put = points[0], tuple(points[1:])
    return (DEED, hand, taken, put) if is_put(plan, taken, put) else None


def log_works(log, many):
    """The works that there are behind the first so many rows."""
    check_many(log, many)
    return works_of(scene_behind(log.crew, log.rows[:many]))


def log_counts(log, many, hand):
    """The points whose count for the hand is not 0 behind the first so many rows, each with its count."""
    check_many(log, many)
    check_hand(hand, log.crew.hands)
    return counts_of(scene_behind(log.crew, log.rows[:many]), hand)


def is_lacking(log, many, hand):
    """Whether some count is below 0 for the hand behind the first so many rows."""
    check_many(log, many)
    check_hand(hand, log.crew.hands)
    return is_lacking_for(scene_behind(log.crew, log.rows[:many]), hand)


def judged_log(log):
    """What is wrong with the first row in which a book says what is wrong, or that none is."""
    scene = Scene(log.crew)
    for number, row in enumerate(log.rows):
        wrong = wrong_row(log, scene, number, row) if row[0] in (OVER, OPEN) else None
        if wrong is not None:
            return wrong
        lead(scene, row)
    return FINE


def shows_judged_log(log, value):
    """Whether any value is what judged_log may return."""
    told = judged_log(log)
    if not isinstance(value, tuple) or len(value) != len(told) or value[0] != told[0]:
        return False
    if told[0] != UNSAFE:
        return all([is_integer(number) for number in value[1:]]) and value == told
    _, number, work, way = value
    if not is_integer(number) or number != told[1] or not is_point(log.crew.plan, work):
        return False
    _, _, place, time = log.rows[number]
    if work not in log_works(log, number):
        return False
    return shows_could_come(log.crew.plan, work, (place, time), ("way", way))


def first_true(log, place, time):
    """The least number of rows behind which the time is over for all works that there are; None if there is none."""
    check_place(log.crew.plan, place)
    check_time_at(log.crew.plan, place, time)
    scene = Scene(log.crew)
    for many, row in enumerate((*log.rows, None)):
        if is_over_for_all(scene, (place, time)):
            return many
        if row is not None:
            lead(scene, row)
    return None


def first_exact(log, hand, place, time):
    """The least number of rows behind which nothing lacks for the hand, and the time is over by its counts; or None."""
    check_hand(hand, log.crew.hands)
    check_place(log.crew.plan, place)
    check_time_at(log.crew.plan, place, time)
    scene = Scene(log.crew)
    for many, row in enumerate((*log.rows, None)):
        if not is_lacking_for(scene, hand) and is_over_by_counts(scene, hand, (place, time)):
            return many
        if row is not None:
            lead(scene, row)
    return None


def log_lags(log):
    """Each row that says over, and is not unsafe, with the least number of rows behind which this is true."""
    lags = []
    for number, row in enumerate(log.rows):
        if row[0] == OVER:
            since = first_true(log, row[2], row[3])
            # What is over stays over: so what was over ahead of this row is so here.
            if since is not None and since <= number:
                lags.append((number, since))
    return tuple(lags)


def check_many(log, value):
    """Raises BadNumber unless value is how many rows of the log can be looked at."""
    if not is_integer(value) or not 0 <= value <= len(log):
        raise BadNumber(value)


def wrong_row(log, scene, number, row):
    """What judged_log returns if the row, in which a book says something here, is wrong; None if it is right."""
    word, hand, place, time = row
    if word == OVER:
        for work in works_of(scene):
            if does_come(scene.tables, work, (place, time)):
                return (UNSAFE, number, work, could_come(log.crew.plan, work, (place, time))[1])
    else:
        elder = first_over(log.rows[:number], row)
        if elder is not None:
            return ("back", number, elder)
    is_right = is_lacking_for(scene, hand) or is_over_by_counts(scene, hand, (place, time)) == (word == OVER)
    return None if is_right else ("inexact", number)


def first_over(rows, row):
    """The number of the first of these rows in which the same hand called this time, or a later one, over; or None."""
    _, hand, place, time = row
    for number, other in enumerate(rows):
        if other[0] == OVER and other[1:3] == (hand, place) and is_at_most(time, other[3]):
            return number
    return None
