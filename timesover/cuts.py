"""Cuts: what is told by those deeds of a history that were heard, and what lacks."""

from timesover.basics import is_integer
from timesover.crews import changes_behind, changes_of, is_deed
from timesover.errors import BadCut, BadHistory, TooMany
from timesover.plans import check_place, lines_from
from timesover.reach import does_come, front_by
from timesover.shifts import time_behind
from timesover.sums import summed, sums_of

MOST_DEEDS = 400
MOST_CUTS = 20000


def works_behind(crew, deeds):
    """The points at which there are works behind the history, each with how many."""
    check_history(crew, deeds)
    return numbered(crew, deeds)


def cut_numbers(crew, deeds, cut):
    """The points whose number is not 0 for the cut, each with its number."""
    check_cut(crew, deeds, cut)
    return numbers_by(crew, deeds, cut)


def cut_lacks(crew, deeds, cut):
    """The points that lack works for the cut, each with how many."""
    check_cut(crew, deeds, cut)
    return tuple([(point, -number) for point, number in numbers_by(crew, deeds, cut) if number < 0])


def cut_front(crew, deeds, cut, place):
    """The least times at this place to which points with a number above 0 could come."""
    check_cut(crew, deeds, cut)
    check_place(crew.plan, place)
    return front_by(crew.tables, points_above(numbers_by(crew, deeds, cut)), place)


def surely_gone(crew, deeds, cut):
    """The points of one work that must have been taken, as nothing else could have led to what lacks."""
    check_cut(crew, deeds, cut)
    return gone_points(crew, numbers_by(crew, deeds, cut))


def sharp_front(crew, deeds, cut, place):
    """The front, with what can be put for a surely gone point in the stead of that point."""
    check_cut(crew, deeds, cut)
    check_place(crew.plan, place)
    numbers = numbers_by(crew, deeds, cut)
    gone = gone_points(crew, numbers)
    points = [point for point in points_above(numbers) if point not in gone]
    for point in gone:
        points.extend(least_put_for(crew.plan, point))
    return front_by(crew.tables, points, place)


def fewest_more(crew, deeds, cut):
    """How few more deeds a cut has behind this one for which nothing lacks, and such a cut."""
    check_cut(crew, deeds, cut)
    found = fewest_cuts(crew, deeds, cut)
    return (sum(found[0]) - sum(cut), found[0])


def shows_fewest_more(crew, deeds, cut, value):
    """Whether any value is what fewest_more may return."""
    check_cut(crew, deeds, cut)
    found = fewest_cuts(crew, deeds, cut)
    if not isinstance(value, tuple) or len(value) != 2 or not is_integer(value[0]):
        return False
    many, later = value
    return many == sum(found[0]) - sum(cut) and is_cut(crew, deeds, later) and later in found


def whole_cuts(crew, deeds):
    """How many cuts of the history lack nothing."""
    check_history(crew, deeds)
    return len(whole_cuts_from(crew, deeds, (0,) * crew.hands))


def check_history(crew, value):
    """Raises BadHistory unless value is a history of the crew."""
    if not isinstance(value, tuple) or len(value) > MOST_DEEDS:
        raise BadHistory(None)
    works = sums_of([(point, 1) for hand, point in crew.works])
    for number, deed in enumerate(value):
        if not is_hand_deed(crew, deed) or works.get(deed[1], 0) == 0:
            raise BadHistory(number)
        for point, change in changes_of(deed[1], deed[2]):
            works[point] = works.get(point, 0) + change


def is_hand_deed(crew, value):
    """Whether any value is a deed of one of the crew's hands."""
    if not isinstance(value, tuple) or not is_deed(crew.plan, value[1:]):
        return False
    return is_integer(value[0]) and 0 <= value[0] < crew.hands


def check_cut(crew, deeds, value):
    """Raises BadHistory unless deeds are a history, and BadCut unless value is a cut of it."""
    check_history(crew, deeds)
    if not is_cut(crew, deeds, value):
        raise BadCut(value)


def is_cut(crew, deeds, value):
    """Whether any value tells for each hand how many of its deeds in this history are heard."""
    if not isinstance(value, tuple) or len(value) != crew.hands:
        return False
    return all([is_integer(many) and 0 <= many <= most for many, most in zip(value, deeds_done(crew, deeds))])


def deeds_done(crew, deeds):
    """For each hand how many of these deeds are its own."""
    return [len(rows) for rows in deeds_by_hand(crew, deeds)]


def deeds_by_hand(crew, deeds):
    """For each hand its deeds, in their sequence."""
    rows = [[] for _ in range(crew.hands)]
    for deed in deeds:
        rows[deed[0]].append(deed)
    return rows


def numbered(crew, deeds):
    """The points whose number is not 0 if just these deeds are heard, each with its number."""
    points = [point for hand, point in crew.works]
    return summed(changes_behind(points, [(taken, put) for hand, taken, put in deeds]))


def numbers_by(crew, deeds, cut):
    """What cut_numbers returns, of what is known to be a cut."""
    heard = [own[:many] for own, many in zip(deeds_by_hand(crew, deeds), cut)]
    return numbered(crew, [deed for rows in heard for deed in rows])


def points_above(numbers):
    """The points with a number above 0."""
    return [point for point, number in numbers if number > 0]


def gone_points(crew, numbers):
    """What surely_gone returns, of the points with their numbers."""
    counted = points_above(numbers)
    lone = []
    for lacking in [point for point, number in numbers if number < 0]:
        able = [point for point in counted if does_come(crew.tables, point, lacking)]
        if len(able) == 1:
            lone.append(able[0])
    return tuple([point for point, number in numbers if number == 1 and point in lone])


def least_put_for(plan, point):
    """Points that can be put for this one, so that each other one is at the place of one of them, no earlier."""
    place, time = point
    later = [(place, (*time[:part], time[part] + 1, *time[part + 1:])) for part in range(len(time))]
    ends = [(plan.lines[number][1], plan.lines[number][2]) for number in lines_from(plan, place)]
    return later + [(end, time_behind(shift, time)) for end, shift in ends]


def fewest_cuts(crew, deeds, cut):
    """The cuts, of those behind this one that lack nothing, with the fewest deeds; TooMany if there are too many."""
    found = whole_cuts_from(crew, deeds, cut)
    fewest = min([sum(later) for later in found])
    return [later for later in found if sum(later) == fewest]


def whole_cuts_from(crew, deeds, cut):
    """The cuts that lack nothing and have for no hand less than this one; TooMany if there are too many to look at."""
    many = 1
    for begun, most in zip(cut, deeds_done(crew, deeds)):
        many = many * (most - begun + 1)
    if many > MOST_CUTS:
        raise TooMany(MOST_CUTS)
    rows = [own[begun:] for own, begun in zip(deeds_by_hand(crew, deeds), cut)]
    numbers = sums_of(numbers_by(crew, deeds, cut))
    found = []
    add_whole_cuts(found, numbers, len([number for number in numbers.values() if number < 0]), rows, cut, 0)
    return found


def add_whole_cuts(found, numbers, lacking, rows, cut, hand):
    """Adds to found the cuts that lack nothing and have as many deeds as cut of the hands ahead of this one.

    rows are the deeds behind cut, by hand; at so many points works are lacking by these numbers.
    """
    if hand == len(rows):
        if lacking == 0:
            found.append(cut)
        return
    add_whole_cuts(found, numbers, lacking, rows, cut, hand + 1)
    for at, (_, taken, put) in enumerate(rows[hand], start=1):
        for point, change in changes_of(taken, put):
            lacking += count_change(numbers, point, change)
        longer = (*cut[:hand], cut[hand] + at, *cut[hand + 1:])
        add_whole_cuts(found, numbers, lacking, rows, longer, hand + 1)
    # Left as they came, so that no copy is needed for each of so many cuts.
    for _, taken, put in rows[hand]:
        for point, change in changes_of(taken, put):
            count_change(numbers, point, -change)


def count_change(numbers, point, change):
    """Changes the number of the point; returns how many points more lack works now."""
    before = numbers.get(point, 0)
    numbers[point] = before + change
    return (1 if numbers[point] < 0 else 0) - (1 if before < 0 else 0)
