"""Histories of deeds by a rule, of which only some are heard: what plain counts have to be safe in."""

import collections

from support import points_of, put_soon


class History:
    """Works of the beginning, deeds of some hands, which of them are heard, and the works that are there in the end."""

    def __init__(self, picks, plan, many):
        self.plan = plan
        points = points_of(plan, 3)
        self.beginning = sorted(picks.choice(points) for _ in range(picks.randint(1, 4)))
        self.held = [(picks.randrange(3), point) for point in self.beginning]
        self.deeds = []
        for _ in range(many):
            if self.held:
                self.do_deed(picks)
        self.heard = [deed for deed in self.deeds if picks.randrange(2)]

    def do_deed(self, picks):
        """A hand takes a work that it holds, and puts others, for itself or for another one."""
        hand, taken = picks.choice(self.held)
        put = []
        for _ in range(picks.randint(0, 2)):
            point = put_soon(picks, self.plan, taken)
            if point is not None:
                put.append(point)
        self.held.remove((hand, taken))
        self.held += [(picks.choice((hand, 0, 1, 2)), point) for point in put]
        self.deeds.append((hand, taken, tuple(sorted(put))))

    def works(self):
        """The points of all works."""
        return [point for _, point in self.held]

    def pairs(self, deeds):
        """The deeds as pairs of what is taken and what is put."""
        return tuple((taken, put) for _, taken, put in deeds)

    def counts(self, deeds, name=lambda point: point):
        """The counts of the works of the beginning and these deeds; name tells by which point a point is counted."""
        counts = collections.Counter(name(point) for point in self.beginning)
        for _, taken, put in deeds:
            counts[name(taken)] -= 1
            counts.update(name(point) for point in put)
        return tuple((point, counts[point]) for point in sorted(counts) if counts[point])
