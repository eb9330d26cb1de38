"""Points in lines of texts, as crews, logs and journals write them."""

from timesover.basics import is_long_numeral
from timesover.plans import depth_of


def point_words(point):
    """The words for a point: the name of its place, and the parts of its time."""
    place, time = point
    return " ".join([place, *[str(part) for part in time]])


def told_point(plan, words, figures):
    """The point that the words tell, with numbers of at most so many figures; None if they tell none of the plan."""
    if len(words) == 0 or words[0] not in plan or len(words) - 1 != depth_of(plan, words[0]):
        return None
    if not all([is_long_numeral(word, figures) for word in words[1:]]):
        return None
    return (words[0], tuple([int(word) for word in words[1:]]))
