"""Deaf hands: what is safe to say for who counts nothing at some places."""

from timesover.errors import BadPlaces
from timesover.plans import depth_of, led_places
from timesover.shifts import time_behind
from timesover.sound import check_sound
from timesover.tables import shift_table


def deaf_safe(plan, deaf, asked):
    """Whether what a hand says that is deaf to the one lot of places is safe at the other one; if not, two points."""
    check_sound(plan)
    check_lot(plan, deaf)
    check_lot(plan, asked)
    for end in asked:
        for place in deaf:
            if end in led_places(plan, (place,)):
                time = (0,) * depth_of(plan, place)
                times = [time_behind(shift, time) for shift in shift_table(plan, place, end)]
                return ("unsafe", (place, time), (end, min(times)))
    return ("safe",)


def least_heard(plan, asked):
    """The places that must be heard for what is said to be safe at those that are asked for."""
    check_sound(plan)
    check_lot(plan, asked)
    return tuple([place for place, depth in plan.places if leads_to_one(plan, place, asked)])


def leads_to_one(plan, place, ends):
    """Whether a way, of lines or of none, leads from this place to one of the others."""
    led = led_places(plan, (place,))
    return len([end for end in ends if end in led]) > 0


def check_lot(plan, value):
    """Raises BadPlaces unless value is a tuple of names of places, in the order of the plan's text, each once."""
    if not isinstance(value, tuple) or list(value) != [place for place, depth in plan.places if place in value]:
        raise BadPlaces(value)
