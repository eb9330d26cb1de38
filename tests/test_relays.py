"""Relays (section 13)."""

import collections
import itertools

from support import NEVER, Case, Picks, sound_plans
from timesover.books import first_book, front, heard
from timesover.errors import BadHand, BadPairs, NoPair
from timesover.relays import Net, needed_pairs, reached_hands
from worlds import some_crew, told_by

ALL_PAIRS = list(itertools.combinations(range(10), 2))
NO_PAIRS = NEVER + (
    [(0, 1)], (0, 1), ((0, 1), (0, 1)), ((1, 0),), ((0, 0),), ((0, 10),), ((-1, 0),), ((0, 1, 2),), ((0,),), ((),),
    ([0, 1],), ((0, True),), ((False, 1),), ((1, 2), (0, 1)), ((0, 2), (0, 1)), ((0, 1), None), (((0, 1),),),
    (("0", "1"),), ((0, "1"),), ((0, None),), {(0, 1): 2}, ((0, 1), (1, 2), (0, 2)), ((9, 10),), ((0, 10 ** 39),),
    ((0, (1,)),), ((0, [1]),),
)
LINE = ((0, 1), (1, 2), (2, 7))


def some_pairs(picks):
    """Pairs by a rule: few or many, of few or many hands, so rings and several pieces as well."""
    hands = picks.randint(2, 10)
    rows = [pair for pair in ALL_PAIRS if pair[1] < hands]
    return tuple(sorted({picks.choice(rows) for _ in range(picks.randint(0, hands + 3))}))


def by_closing(pairs, hand):
    """The hands that this one reaches, by adding neighbours for as long as there are new ones."""
    reached = {hand}
    for _ in range(10):
        reached |= {far for pair in pairs if reached & set(pair) for far in pair}
    return tuple(sorted(reached))


def shown(net):
    """All that a net shows."""
    return (net.pairs, net.hands, net.tellers, [net.heard(hand) for hand in net.hands],
            [(way, net.on_way(*way)) for pair in net.pairs for way in (pair, pair[::-1])])


class World:
    """What is on the way, as rows of (number, hand from, hand to) in the order in which it was put there."""

    def __init__(self, case, pairs):
        self.case = case
        self.net = Net(pairs)
        self.pairs = pairs
        self.way = []
        self.heard = {hand: [] for pair in pairs for hand in pair}
        self.tellers = []
        # For each telling what its teller had heard ahead of it.
        self.ahead = []
        self.news = collections.Counter()
        self.check()

    def tell(self, hand):
        number = len(self.tellers)
        self.case.alike(self.net.tell(hand), number)
        self.ahead.append(list(self.heard[hand]))
        self.tellers.append(hand)
        self.put(number, hand, None)

    def put(self, number, hand, but):
        """The hand has heard the telling, and passes it on to all neighbours but this one."""
        self.heard[hand].append(number)
        self.way += [(number, hand, other) for other in range(10)
                     if tuple(sorted((hand, other))) in self.pairs and other != but]

    def carry(self, one, other):
        rows = [row for row in self.way if row[1:] == (one, other)]
        told = self.net.carry(one, other)
        if not rows:
            self.case.alike(told, None)
            return
        number, is_new = rows[0][0], rows[0][0] not in self.heard[other]
        self.case.alike(told, (number, is_new))
        self.way.remove(rows[0])
        if is_new:
            self.news[number, other] += 1
            self.put(number, other, one)

    def drain(self, picks):
        """Carries, by a rule, until nothing is on the way."""
        while self.way:
            self.carry(*picks.choice(self.way)[1:])

    def check(self):
        ways = sorted(way for pair in self.pairs for way in (pair, pair[::-1]))
        self.case.alike(self.net.pairs, self.pairs)
        self.case.alike(self.net.hands, tuple(sorted(self.heard)))
        self.case.alike(self.net.tellers, tuple(self.tellers))
        for hand, numbers in self.heard.items():
            self.case.alike(self.net.heard(hand), tuple(numbers))
            for at, number in enumerate(numbers):
                self.case.assertLessEqual(set(self.ahead[number]), set(numbers[:at]))
        for way in ways:
            self.case.alike(self.net.on_way(*way), tuple(row[0] for row in self.way if row[1:] == way))


def worlds(case, seed, many):
    """Worlds of pairs by a rule, each with picks for its script."""
    picks = Picks(seed)
    return [(World(case, some_pairs(picks)), Picks(seed * 1000 + at)) for at in range(many)]


class Scripts(Case):

    def test_behind_each_step(self):
        for world, picks in worlds(self, 70, 60):
            ways = [way for pair in world.pairs for way in (pair, pair[::-1])]
            for _ in range(60 if ways else 0):
                if picks.randrange(4) == 0:
                    world.tell(picks.choice(world.net.hands))
                else:
                    world.carry(*picks.choice(ways))
                world.check()

    def test_each_telling_is_new_once_and_reaches_just_whom_it_can_reach(self):
        for world, picks in worlds(self, 71, 80):
            for _ in range(30 if world.pairs else 0):
                world.tell(picks.choice(world.net.hands))
                for _ in range(picks.randrange(4)):
                    if world.way:
                        world.carry(*picks.choice(world.way)[1:])
            world.drain(picks)
            world.check()
            self.assertLessEqual(set(world.news.values()), {1})
            for hand in world.net.hands:
                wanted = {number for number, teller in enumerate(world.tellers)
                          if hand in reached_hands(world.pairs, teller)}
                self.assertEqual(set(world.net.heard(hand)), wanted)
                self.assertEqual(len(world.net.heard(hand)), len(wanted))

    def test_a_telling_that_comes_on_two_ways_and_one_that_comes_back(self):
        net = Net(((0, 1), (0, 2), (1, 2)))
        self.alike([net.tell(0), net.carry(0, 1), net.carry(0, 2)], [0, (0, True), (0, True)])
        self.alike([net.on_way(1, 2), net.on_way(2, 1), net.on_way(1, 0), net.on_way(2, 0)], [(0,), (0,), (), ()])
        self.alike([net.carry(1, 2), net.carry(2, 1), net.carry(1, 2)], [(0, False), (0, False), None])
        net = Net(((0, 1), (0, 3), (1, 2), (2, 3)))
        net.tell(0)
        self.alike([net.carry(0, 1), net.carry(1, 2), net.carry(2, 3)], [(0, True)] * 3)
        # It has gone round: what it comes back to has heard it, and what is still on the way there is not new.
        self.alike([net.carry(3, 0), net.carry(0, 3), net.on_way(3, 0)], [(0, False), (0, False), ()])

    def test_no_pairs(self):
        net = Net(())
        self.alike([net.pairs, net.hands, net.tellers, needed_pairs(())], [(), (), (), ()])
        for hand in (0, 9):
            self.refuses(BadHand, hand, net.tell, hand)
            self.refuses(BadHand, hand, reached_hands, (), hand)

    def test_one_pair(self):
        net = Net(pairs=((0, 9),))
        self.alike([net.carry(0, 9), net.carry(one=9, other=0), net.on_way(other=0, one=9)], [None, None, ()])
        self.alike([net.tell(hand=9), net.tell(9), net.tell(0)], [0, 1, 2])
        self.alike([net.on_way(9, 0), net.on_way(0, 9), net.tellers], [(0, 1), (2,), (9, 9, 0)])
        self.alike([net.carry(9, 0), net.heard(hand=0), net.heard(9)], [(0, True), (2, 0), (0, 1)])
        self.alike([reached_hands(hand=9, pairs=((0, 9),)), needed_pairs(pairs=((0, 9),))], [(0, 9), ((0, 9),)])

    def test_a_copy_goes_on_by_itself(self):
        for world, picks in worlds(self, 72, 30):
            if not world.pairs:
                self.alike(shown(world.net.copy()), shown(world.net))
                continue
            for _ in range(20):
                world.tell(picks.choice(world.net.hands))
                world.carry(*picks.choice(world.way)[1:])
            copy, before = world.net.copy(), shown(world.net)
            self.alike(shown(copy), before)
            world.tell(picks.choice(world.net.hands))
            world.drain(picks)
            self.alike(shown(copy), before)
            behind = shown(world.net)
            copy.tell(world.pairs[0][0])
            copy.carry(*world.pairs[0])
            self.alike(shown(world.net), behind)
            world.check()

    def test_books_led_by_nets(self):
        for at, plan in enumerate(sound_plans(73, 20)):
            picks = Picks(74 + at)
            crew = some_crew(picks, plan)
            pairs = tuple((hand, hand + 1) for hand in range(crew.hands - 1))
            net, told = Net(pairs), []
            books = [first_book(crew, hand) for hand in range(crew.hands)]
            works = [point for _, point in crew.works]
            while works:
                taken, hand = works.pop(), picks.randrange(crew.hands)
                put = ((taken[0], (taken[1][0] + 1, *taken[1][1:])),) if picks.randrange(2) else ()
                works += put
                books[hand], telling = told_by(crew, books[hand], taken, put)
                self.alike(net.tell(hand), len(told))
                told.append(telling)
                self.carry_some(crew, net, books, told, picks.randrange(4), picks)
            self.carry_some(crew, net, books, told, 10 ** 6, picks)
            for book in books:
                self.alike([front(crew, book, place) for place, _ in plan.places], [()] * len(plan))

    def carry_some(self, crew, net, books, told, most, picks):
        """Carries so many tellings at most, and leads the book of each hand for which one is new."""
        for _ in range(most):
            ways = [way for pair in net.pairs for way in (pair, pair[::-1]) if net.on_way(*way)]
            if not ways:
                break
            one, other = picks.choice(ways)
            number, is_new = net.carry(one, other)
            if is_new:
                books[other] = heard(crew, books[other], net.tellers[number], told[number])


class Pairs(Case):

    def test_all_pairs_of_four_hands(self):
        rows = list(itertools.combinations(range(4), 2))
        for many in range(7):
            for pairs in itertools.combinations(rows, many):
                self.check_pairs(pairs)

    def test_pairs_by_a_rule(self):
        picks = Picks(75)
        for _ in range(150):
            self.check_pairs(some_pairs(picks))
        self.check_pairs(tuple(ALL_PAIRS))

    def check_pairs(self, pairs):
        """Who reaches whom, and which pairs are needed for it, by taking out each of them."""
        hands = sorted({hand for pair in pairs for hand in pair})
        self.alike(Net(pairs).hands, tuple(hands))
        for hand in hands:
            self.alike(reached_hands(pairs, hand), by_closing(pairs, hand))
        needed = [pair for pair in pairs if any(by_closing(pairs, hand) != by_closing(set(pairs) - {pair}, hand)
                                                for hand in hands)]
        self.alike(needed_pairs(pairs), tuple(needed))


class Errors(Case):

    def test_what_are_no_pairs_is_refused(self):
        for wrong in NO_PAIRS:
            self.refuses(BadPairs, wrong, Net, wrong)
            self.refuses(BadPairs, wrong, needed_pairs, wrong)
            for hand in (0, None):
                self.refuses(BadPairs, wrong, reached_hands, wrong, hand)
        for right in ((), ((0, 9),), ((0, 1), (0, 2), (1, 2)), ((3, 4), (8, 9)), tuple(ALL_PAIRS)):
            self.alike(Net(right).pairs, right)

    def test_what_is_no_hand_of_the_net_is_refused(self):
        net = Net(((1, 2), (2, 5)))
        net.tell(2)
        before = shown(net)
        for wrong in tuple(value for value in NEVER if value not in (1, 2, 5) or value is True) + ((), (1,), 3, 9, 10):
            for function in (net.tell, net.heard):
                self.refuses_unchanged(net, BadHand, wrong, function, wrong)
            self.refuses(BadHand, wrong, reached_hands, net.pairs, wrong)
            for function in (net.carry, net.on_way):
                self.refuses_unchanged(net, BadHand, wrong, function, wrong, 2)
                self.refuses_unchanged(net, BadHand, wrong, function, 2, wrong)
                self.refuses_unchanged(net, BadHand, wrong, function, 1, wrong)
                self.refuses_unchanged(net, BadHand, wrong, function, wrong, None)
                self.refuses_unchanged(net, BadHand, wrong, function, wrong, wrong)
        self.alike(shown(net), before)

    def refuses_unchanged(self, net, error, value, function, *arguments):
        """The call is refused, and the net stands as it did."""
        before = shown(net)
        self.refuses(error, value, function, *arguments)
        self.alike(shown(net), before)

    def test_what_is_no_pair_is_refused(self):
        net = Net(LINE)
        net.tell(1)
        for one, other in itertools.product(net.hands, repeat=2):
            if (min(one, other), max(one, other)) in LINE:
                self.alike(type(net.on_way(one, other)), tuple)
            else:
                self.refuses_unchanged(net, NoPair, (one, other), net.carry, one, other)
                self.refuses_unchanged(net, NoPair, (one, other), net.on_way, one, other)
