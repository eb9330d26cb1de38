"""Scenes: what rows of a log lead to, one after the other: works, and what each hand counts, has told and heard."""

from timesover.crews import changes_of
from timesover.reach import does_one_come
from timesover.sums import summed, sums_of

DEED = "deed"
TOLD = "told"
HEAR = "hear"


class Scene:
    """A crew behind some rows; at first behind none."""

    def __init__(self, crew):
        changes = [(point, 1) for hand, point in crew.works]
        self.tables = crew.tables
        self.works = sums_of(changes)
        self.counted = [sums_of(changes) for _ in range(crew.hands)]
        # For each hand its deeds that are not told, what it told at a time, and how much it has heard of each other.
        self.untold = [[] for _ in range(crew.hands)]
        self.tellings = [[] for _ in range(crew.hands)]
        self.numbers = [[0] * crew.hands for _ in range(crew.hands)]


def scene_behind(crew, rows):
    """The scene behind these rows."""
    scene = Scene(crew)
    for row in rows:
        lead(scene, row)
    return scene


def can_follow(scene, row):
    """Whether the row can stand here: there is a work to be taken, or something to tell, or to hear."""
    if row[0] == DEED:
        return scene.works.get(row[2], 0) > 0
    if row[0] == TOLD:
        return len(scene.untold[row[1]]) > 0
    if row[0] == HEAR:
        _, hand, other = row
        return hand != other and scene.numbers[hand][other] < len(scene.tellings[other])
    return True


def lead(scene, row):
    """Leads the scene on by a row that can stand here; what a book says changes nothing."""
    if row[0] == DEED:
        _, hand, taken, put = row
        add_changes(scene.works, taken, put)
        add_changes(scene.counted[hand], taken, put)
        scene.untold[hand].append((taken, put))
    elif row[0] == TOLD:
        hand = row[1]
        scene.tellings[hand].append(scene.untold[hand])
        scene.untold[hand] = []
    elif row[0] == HEAR:
        _, hand, other = row
        for taken, put in scene.tellings[other][scene.numbers[hand][other]]:
            add_changes(scene.counted[hand], taken, put)
        scene.numbers[hand][other] += 1


def add_changes(sums, taken, put):
    """Adds the changes of a deed to the sums."""
    for point, change in changes_of(taken, put):
        sums[point] = sums.get(point, 0) + change


def works_of(scene):
    """The works that there are, ascending."""
    return tuple([point for point, many in summed(list(scene.works.items())) for _ in range(many)])


def counts_of(scene, hand):
    """The points whose count for the hand is not 0, each with its count."""
    return summed(list(scene.counted[hand].items()))


def is_lacking_for(scene, hand):
    """Whether some count is below 0 for the hand."""
    return len([count for count in scene.counted[hand].values() if count < 0]) > 0


def is_over_for_all(scene, point):
    """Whether no work that there is could come to the point."""
    return is_over_by(scene, scene.works, point)


def is_over_by_counts(scene, hand, point):
    """Whether nothing that the hand counts above 0 could come to the point."""
    return is_over_by(scene, scene.counted[hand], point)


def is_over_by(scene, sums, point):
    """Whether no point with a sum above 0 could come to this one."""
    return not does_one_come(scene.tables, [other for other, many in sums.items() if many > 0], point)
