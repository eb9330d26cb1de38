"""Logs that are kept of crews by a rule, with what books of the package say, and what is true behind their rows."""

import collections

from support import points_of, put_soon
from timesover.books import first_book, heard, over
from timesover.plans import Plan
from timesover.shifts import shifted
from timesover.tables import shift_table
from timesover.times import is_before
from worlds import told_by


def point_text(point):
    """The words of a point."""
    return " ".join([point[0], *map(str, point[1])])


def row_text(row):
    """The line for a row of a log."""
    if row[0] == "deed":
        _, hand, taken, put = row
        return f"deed {hand} {point_text(taken)}" + "".join(" put " + point_text(point) for point in put)
    if row[0] in ("over", "open"):
        return f"{row[0]} {row[1]} {point_text(row[2:])}"
    return " ".join(map(str, row))


class Keeper:
    """A crew at work whose rows are kept, each hand with a book that is led on by all that it does and hears."""

    def __init__(self, picks, crew):
        self.picks = picks
        self.crew = crew
        self.rows = []
        self.works = [point for _, point in crew.works]
        self.books = [first_book(crew, hand) for hand in range(crew.hands)]
        self.untold = [[] for _ in self.books]
        self.told = [[] for _ in self.books]
        self.heard = collections.Counter()

    def deed(self, hand, taken, put):
        self.works.remove(taken)
        self.works += put
        self.books[hand], telling = told_by(self.crew, self.books[hand], taken, put)
        self.untold[hand].append(telling)
        self.rows.append(("deed", hand, taken, put))

    def tell(self, hand):
        self.told[hand].append(self.untold[hand])
        self.untold[hand] = []
        self.rows.append(("told", hand))

    def hear(self, hand, other):
        for telling in self.told[other][self.heard[hand, other]]:
            self.books[hand] = heard(self.crew, self.books[hand], other, telling)
        self.heard[hand, other] += 1
        self.rows.append(("hear", hand, other))

    def say(self, hand, point):
        """What the book of the hand says of the point."""
        word = "over" if over(self.crew, self.books[hand], *point) else "open"
        self.rows.append((word, hand, *point))

    def keep(self, many):
        """So many rows by a rule."""
        picks, points = self.picks, points_of(self.crew.plan, 4)
        while len(self.rows) < many:
            hand = picks.randrange(self.crew.hands)
            kind = picks.choice(("deed", "deed", "told", "hear", "hear", "say", "say"))
            if kind == "deed" and self.works:
                taken = picks.choice(self.works)
                put = [put_soon(picks, self.crew.plan, taken) for _ in range(picks.randint(0, 2))]
                self.deed(hand, taken, tuple(sorted(point for point in put if point is not None)))
            elif kind == "told" and self.untold[hand]:
                self.tell(hand)
            elif kind == "hear" and self.ears(hand):
                self.hear(hand, picks.choice(self.ears(hand)))
            elif kind == "say":
                self.say(hand, picks.choice(points))

    def ears(self, hand):
        """The hands of whose tellings this one has not heard some."""
        return [other for other, told in enumerate(self.told) if other != hand and self.heard[hand, other] < len(told)]

    def settle(self):
        """All is told and heard."""
        for hand in range(self.crew.hands):
            if self.untold[hand]:
                self.tell(hand)
        for hand in range(self.crew.hands):
            while self.ears(hand):
                self.hear(hand, self.ears(hand)[0])

    def text(self):
        """The text of the log."""
        return "\n".join(map(row_text, self.rows))


class Truth:
    """What is so behind some rows of a log: the works, and for each hand the counts, by going through the rows."""

    def __init__(self, crew, rows):
        self.plan = crew.plan
        self.counts = [collections.Counter(point for _, point in crew.works) for _ in range(crew.hands)]
        works = collections.Counter(point for _, point in crew.works)
        untold, told, heard_rows = collections.defaultdict(list), collections.defaultdict(list), collections.Counter()
        for row in rows:
            if row[0] == "deed":
                works = changed(works, [row[2:]])
                self.counts[row[1]] = changed(self.counts[row[1]], [row[2:]])
                untold[row[1]].append(row[2:])
            elif row[0] == "told":
                told[row[1]].append(untold.pop(row[1]))
            elif row[0] == "hear":
                deeds = told[row[2]][heard_rows[row[1:]]]
                self.counts[row[1]] = changed(self.counts[row[1]], deeds)
                heard_rows[row[1:]] += 1
        self.works = tuple(sorted(works.elements()))

    def lacks(self, hand):
        """Whether some count is below 0 for the hand."""
        return any(count < 0 for count in self.counts[hand].values())

    def counted(self, hand):
        """The points with a count above 0 for the hand."""
        return [point for point, count in self.counts[hand].items() if count > 0]

    def comers(self, points, other):
        """Those of the points that could come to the other one."""
        return [point for point in points if any(is_before(shifted(shift, point[1]), other[1])
                                                 for shift in shift_table(self.plan, point[0], other[0]))]


def changed(counts, deeds):
    """The counts behind these deeds."""
    counts = counts.copy()
    for taken, put in deeds:
        counts[taken] -= 1
        counts.update(put)
    return counts


# Places with the names of words that stand in lines of texts.
NAMED = Plan("place put 1\nplace place 1\nplace line 1\nplace work 1\nplace hands 2\nplace entry 1\nplace mark 1\n"
             "line put put +1\nline put place +0\nline place line +0\nline line work +0\nline work hands +0 =0\n"
             "line hands entry +0\nline entry mark +0\nline mark put +1")
