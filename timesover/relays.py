"""Relays: tellings that go from neighbour to neighbour, by pairs of hands."""

from timesover.basics import is_among, is_integer
from timesover.crews import MOST_HANDS
from timesover.errors import BadHand, BadPairs, NoPair


class Net:
    """Hands in pairs, what each of them has heard, and what is on the way between them."""

    def __init__(self, pairs):
        check_pairs(pairs)
        self.pairs = pairs
        self.hands = hands_of(pairs)
        self.tellers = ()
        # Dicts of the numbers that each hand has heard, as dicts keep the order in which it heard them.
        self._known = {hand: {} for hand in self.hands}
        self._ways = {way: [] for pair in pairs for way in (pair, pair[::-1])}

    def tell(self, hand):
        """The hand tells one telling more; returns the number of it."""
        check_hand_of(hand, self.hands)
        number = len(self.tellers)
        self.tellers = (*self.tellers, hand)
        self._known[hand][number] = True
        for other in neighbours(self.pairs, hand):
            self._ways[hand, other].append(number)
        return number

    def carry(self, one, other):
        """Brings what has been longest on the way: its number, and whether it is new there; None if nothing is."""
        check_way(self, one, other)
        if len(self._ways[one, other]) == 0:
            return None
        number = self._ways[one, other].pop(0)
        is_new = number not in self._known[other]
        if is_new:
            self._known[other][number] = True
            for far in neighbours(self.pairs, other):
                if far != one:
                    self._ways[other, far].append(number)
        return (number, is_new)

    def heard(self, hand):
        """The numbers of the tellings that the hand has heard, as it heard them."""
        check_hand_of(hand, self.hands)
        return tuple(self._known[hand])

    def on_way(self, one, other):
        """The numbers of the tellings on the way from one to other, the longest one first."""
        check_way(self, one, other)
        return tuple(self._ways[one, other])

    def copy(self):
        """A net that stands alike, and goes on by itself."""
        net = Net(self.pairs)
        net.tellers = self.tellers
        net._known = {hand: dict(known) for hand, known in self._known.items()}
        net._ways = {way: list(numbers) for way, numbers in self._ways.items()}
        return net


def reached_hands(pairs, hand):
    """The hands that can hear the tellings of this one, itself too."""
    check_pairs(pairs)
    check_hand_of(hand, hands_of(pairs))
    return hands_reached(pairs, hand)


def needed_pairs(pairs):
    """The pairs without which some hand could not hear all that it can hear with them."""
    check_pairs(pairs)
    return tuple([pair for pair in pairs if is_needed(pairs, pair)])


def is_needed(pairs, pair):
    """Whether the hands of this pair cannot reach each other by the others."""
    rest = [other for other in pairs if other != pair]
    return pair[1] not in hands_reached(rest, pair[0])


def hands_reached(pairs, hand):
    """What reached_hands returns, of what is known to be pairs; the hand may be in none of them."""
    reached = {hand: True}
    waiting = [hand]
    while waiting:
        for other in neighbours(pairs, waiting.pop()):
            if other not in reached:
                reached[other] = True
                waiting.append(other)
    return tuple(sorted(reached))


def hands_of(pairs):
    """All hands that are in the pairs, ascending."""
    return tuple(sorted(set([hand for pair in pairs for hand in pair])))


def neighbours(pairs, hand):
    """The hands that are in a pair with this one, ascending."""
    return [one if other == hand else other for one, other in pairs if hand in (one, other)]


def check_pairs(value):
    """Raises BadPairs unless value is an ascending tuple of pairs of hands, each once."""
    if not isinstance(value, tuple) or not all([is_pair(pair) for pair in value]):
        raise BadPairs(value)
    if list(value) != sorted(set(value)):
        raise BadPairs(value)


def is_pair(value):
    """Whether any value is a pair of hands, the lesser one first."""
    if not isinstance(value, tuple) or len(value) != 2 or not all([is_integer(hand) for hand in value]):
        return False
    return 0 <= value[0] < value[1] < MOST_HANDS


def check_hand_of(value, hands):
    """Raises BadHand unless value is one of these hands."""
    if not is_among(value, hands):
        raise BadHand(value)


def check_way(net, one, other):
    """Raises BadHand unless both are hands of the net, and NoPair unless they are a pair of it."""
    check_hand_of(one, net.hands)
    check_hand_of(other, net.hands)
    if other not in neighbours(net.pairs, one):
        raise NoPair((one, other))
