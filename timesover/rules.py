"""Rules of telling: when the changes of a deed are told, and whether plain sums of what is told are safe."""

from timesover.basics import is_integer
from timesover.crews import Crew, check_hand
from timesover.errors import BadHeard, BadNet, BadRule
from timesover.plans import is_point, lines_from
from timesover.reach import does_one_come
from timesover.shifts import time_behind
from timesover.sound import check_sound
from timesover.sums import summed
from timesover.texts import point_words
from timesover.worded import WORDS, is_worded_put, minus_word, played, put_word

ORDERED = "ordered"
FREE = "free"
SAFE = ("safe",)
UNSAFE = "unsafe"


class Rule:
    """The rule of telling for a plan that a text tells."""

    def __init__(self, plan, text):
        check_sound(plan)
        if not isinstance(text, str):
            raise BadRule(0)
        net, words = rule_rows(plan, text)
        self.plan = plan
        self.text = text
        self.net = net
        self.minus = tuple([words["minus " + place] for place, depth in plan.places])
        self.stay = tuple([words["stay " + place] for place, depth in plan.places])
        self.plus = tuple([words["plus " + str(number)] for number in range(len(plan.lines))])

    def __eq__(self, other):
        return isinstance(other, Rule) and self.plan == other.plan and self.text == other.text


def rule_rows(plan, text):
    """The net, and the word for each begin of a line, that a text tells; BadRule for the first line that is wrong."""
    rows = text.split("\n")
    if rows[0] not in ("net " + ORDERED, "net " + FREE):
        raise BadRule(1)
    lacking = {begin: True for begin in rule_begins(plan)}
    words = {}
    for number, row in enumerate(rows[1:], start=2):
        begin, _, word = row.rpartition(" ")
        if begin not in lacking or word not in WORDS:
            raise BadRule(number)
        del lacking[begin]
        words[begin] = word
    if lacking:
        raise BadRule(len(rows) + 1)
    return rows[0].split(" ")[1], words


def rule_begins(plan):
    """How the lines of a rule for the plan begin: all that is ahead of their last word, but for the first line."""
    begins = [kind + place for kind in ("minus ", "stay ") for place, depth in plan.places]
    return begins + ["plus " + str(number) for number in range(len(plan.lines))]


def tellings_of(rule, crew, script):
    """The tellings of each hand behind the script."""
    return tuple([tuple(told) for told in played(rule, crew, script).tellings])


def counts_for(rule, crew, script, hand, heard):
    """The points whose count for this hand, behind the script, is not 0 if it has heard these tellings."""
    return play_counts(rule, crew, played(rule, crew, script), hand, heard)


def wrongly_over(rule, crew, script, hand, heard):
    """The points of works, behind the script, to which no point could come that this hand counts above 0."""
    play = played(rule, crew, script)
    counts = play_counts(rule, crew, play, hand, heard)
    counted = [point for point, count in counts if count > 0]
    works = sorted([point for point, many in play.works.items() if many > 0])
    return tuple([point for point in works if not does_one_come(crew.tables, counted, point)])


def rule_safe(rule):
    """Whether plain sums are safe by this rule; if not, a deed of one work that is put, whose two words part them."""
    for place, depth in rule.plan.places:
        taken = (place, (0,) * depth)
        for by in (None, *lines_from(rule.plan, place)):
            if are_parted(rule, place, by):
                return (UNSAFE, taken, least_put(rule.plan, taken, by), by)
    return SAFE


def shows_rule_safe(rule, value):
    """Whether any value is what rule_safe may return."""
    if not isinstance(value, tuple) or len(value) != 4:
        return value == SAFE and rule_safe(rule) == SAFE
    word, taken, point, by = value
    if word != UNSAFE or not is_point(rule.plan, taken) or not is_worded_put(rule.plan, taken, (point, by)):
        return False
    return are_parted(rule, taken[0], by)


def unsafe_script(rule):
    """A crew's text, a script, a hand and what it has heard, such that a work is wrongly over; None if none can be."""
    told = rule_safe(rule)
    if told == SAFE:
        return None
    _, taken, point, by = told
    text = "hands 2\nwork 0 " + point_words(taken)
    script = ((0, taken, ((point, by),)), (0,))
    tellings = tellings_of(rule, Crew(rule.plan, text), script)
    # Who hears no more than that the work was taken knows of no work at all.
    return (text, script, 1, ((tellings[0].index(((taken, -1),)),), ()))


def count_safe(plan, net):
    """How many rules there are for the plan and this net that are safe."""
    check_sound(plan)
    if net not in (ORDERED, FREE):
        raise BadNet(net)
    many = 1
    for place, depth in plan.places:
        many = many * safe_choices(net, 1 + len(lines_from(plan, place)))
    return many


def play_counts(rule, crew, play, hand, heard):
    """What counts_for returns, of the play of a script; it raises BadHand and BadHeard."""
    check_hand(hand, crew.hands)
    if not are_heard(rule, play, hand, heard):
        raise BadHeard(heard)
    changes = [(point, 1) for holder, point in crew.works]
    changes.extend(play.done[hand])
    for told, numbers in zip(play.tellings, heard):
        for number in numbers:
            changes.extend(told[number])
    return summed(changes)


def are_heard(rule, play, hand, value):
    """Whether any value tells, for each hand, which of its tellings this hand can have heard."""
    if not isinstance(value, tuple) or len(value) != len(play.tellings):
        return False
    for other, numbers in enumerate(value):
        many = 0 if other == hand else len(play.tellings[other])
        if not are_numbers_heard(rule.net, many, numbers):
            return False
    return True


def are_numbers_heard(net, many, value):
    """Whether any value are the numbers, ascending, of some of so many tellings that can be heard without others."""
    if not isinstance(value, tuple) or not all([is_integer(number) and 0 <= number < many for number in value]):
        return False
    if net == ORDERED:
        return list(value) == list(range(len(value)))
    return list(value) == sorted(set(value))


def are_parted(rule, place, by):
    """Whether that a work was put can lack where it is heard that the one at this place was taken for it."""
    minus, plus = WORDS.index(minus_word(rule, place)), WORDS.index(put_word(rule, place, by))
    return minus < plus if rule.net == ORDERED else minus != plus


def least_put(plan, taken, by):
    """A point that can be put from taken: along the line of this number, or, if by is None, by staying."""
    place, time = taken
    if by is None:
        return (place, (time[0] + 1, *time[1:]))
    _, end, shift = plan.lines[by]
    return (end, time_behind(shift, time))


def safe_choices(net, many):
    """How many safe choices there are of a word of minus and so many words of what is put."""
    if net == FREE:
        return len(WORDS)
    total = 0
    for word in range(len(WORDS)):
        choices = 1
        for _ in range(many):
            choices = choices * (word + 1)
        total = total + choices
    return total
