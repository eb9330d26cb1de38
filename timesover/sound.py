"""Sound plans: whether each ring raises some part of the times."""

from timesover.errors import BadShift, BadTrace, BadWay, NotSound
from timesover.plans import check_place, depth_of, is_point, lines_from
from timesover.shifts import is_shift, leads_from, time_behind
from timesover.times import is_at_most
from timesover.ways import joined_way, way_end

SET = "set"
KEPT = "kept"
RAISED = "raised"


def led_trace(trace, shift):
    """The trace of a way with this trace that a line with this shift follows."""
    if not is_trace(trace):
        raise BadTrace(trace)
    if not is_shift(shift) or not leads_from(shift, len(trace)):
        raise BadShift(shift)
    return trace_behind(trace, shift)


def traces(plan, one, other):
    """The traces of all ways of one line or more from one place to the other."""
    check_place(plan, one)
    check_place(plan, other)
    found = trace_ways(plan, one, lines_from(plan, one))
    return tuple(sorted([trace for end, trace in found if end == other]))


def ring_time(plan, place, way):
    """The first part that the ring raises, or, if there is none, the least time that it does not make later."""
    check_place(plan, place)
    if not is_ring(plan, place, way):
        raise BadWay(way)
    shift = joined_way(plan, place, way)
    for part, word in enumerate(shift):
        if word[0] == "+" and word[1] > 0:
            return ("rises", part)
    return ("stays", tuple([word[1] for word in shift]))


def soundness(plan):
    """Whether the plan is sound; if not, a ring with a time that it does not make later."""
    for place, depth in plan.places:
        found = trace_ways(plan, place, lines_from(plan, place))
        for (end, trace), way in found.items():
            if end == place and RAISED not in trace:
                return ("ring", place, way, ring_time(plan, place, way)[1])
    return ("sound",)


def shows_soundness(plan, value):
    """Whether any value is what soundness may return."""
    if not isinstance(value, tuple) or len(value) not in (1, 4):
        return False
    if len(value) == 1:
        return value == ("sound",) and soundness(plan) == ("sound",)
    word, place, way, time = value
    if word != "ring" or not is_point(plan, (place, time)) or not is_ring(plan, place, way):
        return False
    return is_at_most(time_behind(joined_way(plan, place, way), time), time)


def staying_lines(plan):
    """The numbers of the lines that lie on a ring which raises no part."""
    # A ring that raises no part raises none wherever it is begun: so each line is tried as the first one.
    return tuple([number for number in range(len(plan.lines)) if is_staying(plan, number)])


def check_sound(plan):
    """Raises NotSound unless the plan is sound."""
    told = soundness(plan)
    if told != ("sound",):
        raise NotSound(told)


def is_staying(plan, number):
    """Whether a ring that begins with the line of this number raises no part."""
    place = plan.lines[number][0]
    found = trace_ways(plan, place, (number,))
    return len([trace for end, trace in found if end == place and RAISED not in trace]) > 0


def is_trace(value):
    """Whether any value is a trace."""
    return isinstance(value, tuple) and 1 <= len(value) <= 4 and all([word in (SET, KEPT, RAISED) for word in value])


def is_ring(plan, place, value):
    """Whether any value is a ring at this place."""
    return way_end(plan, place, value) == place and len(value) > 0


def trace_behind(trace, shift):
    """What led_trace returns, of a trace and a shift that are known to suit."""
    return tuple([SET if word[0] == "=" else raised_trace_word(trace[part], word[1])
                  for part, word in enumerate(shift)])


def raised_trace_word(word, more):
    """What becomes of a part with this word if so much is added to it."""
    return RAISED if word == KEPT and more > 0 else word


def trace_ways(plan, place, firsts):
    """A way for each end and each trace that ways from this place have which begin with one of these lines."""
    kept = (KEPT,) * depth_of(plan, place)
    found = {}
    begun = [(kept, (number,)) for number in firsts]
    while begun:
        longer = []
        for trace, way in begun:
            _, end, shift = plan.lines[way[-1]]
            key = (end, trace_behind(trace, shift))
            if key not in found:
                found[key] = way
                longer.extend([(key[1], (*way, number)) for number in lines_from(plan, end)])
        begun = longer
    return found
