"""Crews: hands that run a sound plan, the works that they hold at the beginning, and their deeds."""

from timesover.basics import MOST_FIGURES, is_integer, is_numeral
from timesover.errors import BadCrew, BadDeeds, BadHand, BadPut
from timesover.plans import are_works, can_put, check_point, is_point
from timesover.reach import tables_from
from timesover.sound import check_sound
from timesover.sums import summed
from timesover.texts import told_point

HANDS = ("2", "3", "4", "5", "6")
# How many hands there ever are, those that come later too.
MOST_HANDS = 10
MOST_WORKS = 40
MOST_PUT = 12


class Crew:
    """The crew of a plan that a text tells."""

    def __init__(self, plan, text):
        check_sound(plan)
        tables = tables_from(plan, [place for place, depth in plan.places])
        if not isinstance(text, str):
            raise BadCrew(0)
        hands, works = crew_rows(plan, text)
        self.plan = plan
        self.text = text
        self.hands = hands
        self.works = works
        # Kept, as each book of the crew is asked by them, again and again.
        self.tables = tables

    def __eq__(self, other):
        return isinstance(other, Crew) and self.plan == other.plan and self.text == other.text


def crew_rows(plan, text):
    """How many hands and which works a text tells; BadCrew for the first of its lines that is not as told."""
    rows = text.split("\n")
    words = rows[0].split(" ")
    if len(words) != 2 or words[0] != "hands" or words[1] not in HANDS:
        raise BadCrew(1)
    hands = int(words[1])
    works = []
    for number, row in enumerate(rows[1:], start=2):
        words = row.split(" ")
        point = told_point(plan, words[2:], MOST_FIGURES)
        if len(works) == MOST_WORKS or words[0] != "work" or point is None or not is_hand_word(words[1], hands):
            raise BadCrew(number)
        works.append((int(words[1]), point))
    return hands, tuple(works)


def is_hand_word(word, many):
    """Whether a word of a text is the number of one of so many hands."""
    return is_numeral(word) and int(word) < many


def check_deed(plan, taken, put):
    """Raises BadPoint or BadPut unless a hand that takes a work at taken can put these in its stead."""
    check_point(plan, taken)
    if not is_put(plan, taken, put):
        raise BadPut(put)


def deed_changes(plan, taken, put):
    """The points at which a deed changes how many works are there, each with its change."""
    check_deed(plan, taken, put)
    return summed(changes_of(taken, put))


def counts_behind(crew, deeds):
    """The points whose count is not 0 behind these deeds, each with its count."""
    check_deeds(crew.plan, deeds)
    return summed(changes_behind([point for hand, point in crew.works], deeds))


def check_hand(value, many):
    """Raises BadHand unless value is the number of one of so many hands."""
    if not is_integer(value) or not 0 <= value < many:
        raise BadHand(value)


def is_put(plan, taken, value):
    """Whether any value is what can be put, in one deed, for a work at the point taken."""
    if not are_works(plan, value) or len(value) > MOST_PUT:
        return False
    return all([can_put(plan, taken, point) for point in value])


def is_deed(plan, value):
    """Whether any value is a pair of what a deed takes and what it puts."""
    if not isinstance(value, tuple) or len(value) != 2:
        return False
    return is_point(plan, value[0]) and is_put(plan, value[0], value[1])


def check_deeds(plan, value):
    """Raises BadDeeds unless value is a tuple of deeds."""
    if not isinstance(value, tuple):
        raise BadDeeds(-1)
    for number, deed in enumerate(value):
        if not is_deed(plan, deed):
            raise BadDeeds(number)


def changes_of(taken, put):
    """The changes of one deed, one for each work."""
    return [(taken, -1), *[(point, 1) for point in put]]


def changes_behind(points, deeds):
    """The changes of all works of the beginning, at these points, and of all these deeds."""
    changes = [(point, 1) for point in points]
    for taken, put in deeds:
        changes.extend(changes_of(taken, put))
    return changes
