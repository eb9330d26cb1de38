"""Desks: yards under names, whose steps can be undone and done again."""

from timesover.basics import is_name, is_numeral
from timesover.errors import BadDesk, BadEntry, BadJournal, Held, NoEntry, NoMark, NothingToRedo, NothingToUndo
from timesover.journals import journal_text, read_journal
from timesover.yards import Yard


class Entry:
    """The steps of a yard, those undone as well, how many of them stand, and marks."""

    def __init__(self, crew, steps, many, marked):
        self.crew = crew
        # Those that stand, then those undone, the one first that would be done again first.
        self.steps = steps
        self.many = many
        self.marked = marked
        # The yard of those that stand: it is played anew when it is asked for and they have changed.
        self.played = None


class Desk:
    """Entries under names."""

    def __init__(self):
        self.names = ()
        self._entries = {}

    def __len__(self):
        return len(self.names)

    def __contains__(self, value):
        return isinstance(value, str) and value in self.names

    def begin(self, name, text):
        """A new entry with the yard of this journal."""
        check_new(self, name)
        yard = read_journal(text)
        put_entry(self, name, Entry(yard.crew, yard.steps, len(yard), {}))

    def branch(self, name, other):
        """A new entry with the steps that stand in this one."""
        entry = entry_of(self, name)
        check_new(self, other)
        put_entry(self, other, Entry(entry.crew, entry.steps[:entry.many], entry.many, {}))

    def drop(self, name):
        """The entry is no longer there."""
        check_entry(self, name)
        del self._entries[name]
        self.names = tuple([other for other in self.names if other != name])

    def lead(self, name, value):
        """Does a step in the yard of the entry; what was undone is forgotten."""
        entry = entry_of(self, name)
        yard = yard_behind(entry)
        yard.step(value)
        entry.marked = {word: number for word, number in entry.marked.items() if number <= entry.many}
        entry.steps = yard.steps
        entry.many = len(yard)

    def undo(self, name):
        """Undoes the last step that stands."""
        entry = entry_of(self, name)
        if entry.many == 0:
            raise NothingToUndo(name)
        stand_at(entry, entry.many - 1)

    def redo(self, name):
        """Does the step again that was undone last."""
        entry = entry_of(self, name)
        if entry.many == len(entry.steps):
            raise NothingToRedo(name)
        stand_at(entry, entry.many + 1)

    def mark(self, name, word):
        """The word marks as many steps as stand now."""
        entry = entry_of(self, name)
        check_word(word)
        entry.marked[word] = entry.many

    def marks(self, name):
        """All marks, each with the number of steps that it marks."""
        entry = entry_of(self, name)
        return tuple(sorted(entry.marked.items()))

    def back(self, name, word):
        """Undoes steps, or does them again, until as many stand as the word marks."""
        entry = entry_of(self, name)
        if not isinstance(word, str) or word not in entry.marked:
            raise NoMark(word)
        stand_at(entry, entry.marked[word])

    def yard_of(self, name):
        """A yard in which just the steps that stand were done."""
        return yard_behind(entry_of(self, name)).copy()

    def all_steps(self, name):
        """The steps that stand, and those that were undone."""
        entry = entry_of(self, name)
        return (entry.steps[:entry.many], entry.steps[entry.many:])


def desk_text(desk):
    """The text of the desk."""
    return "\n".join([entry_text(name, entry_of(desk, name)) for name in desk.names])


def read_desk(text):
    """The desk with this text."""
    if not isinstance(text, str):
        raise BadDesk(0)
    desk = Desk()
    if text == "":
        return desk
    rows = text.split("\n")
    begun = [at for at, row in enumerate(rows) if at == 0 or row.split(" ")[0] == "entry"]
    for at, end in zip(begun, [*begun[1:], len(rows)]):
        read_entry(desk, rows[:end], at)
    return desk


def check_entry(desk, value):
    """Raises NoEntry unless value is the name of an entry."""
    if value not in desk:
        raise NoEntry(value)


def check_word(value):
    """Raises BadEntry unless value is a name that an entry, or a mark, can have."""
    if not is_name(value):
        raise BadEntry(value)


def check_new(desk, value):
    """Raises BadEntry or Held unless value is a name that a new entry can have."""
    check_word(value)
    if value in desk:
        raise Held(value)


def entry_of(desk, name):
    """The entry of this name."""
    check_entry(desk, name)
    return desk._entries[name]


def put_entry(desk, name, entry):
    """Puts a new entry on the desk."""
    desk._entries[name] = entry
    desk.names = tuple(sorted([*desk.names, name]))


def stand_at(entry, many):
    """The first so many steps of the entry stand, the others are undone."""
    entry.many = many
    entry.played = None


def yard_behind(entry):
    """The yard of the entry, which is its own."""
    if entry.played is None:
        entry.played = Yard(entry.crew)
        for step in entry.steps[:entry.many]:
            entry.played.step(step)
    return entry.played


def entry_text(name, entry):
    """The lines of an entry: its name and how many steps stand, its marks, its journal."""
    rows = [" ".join(["entry", name, str(entry.many)])]
    rows.extend([" ".join(["mark", word, str(number)]) for word, number in sorted(entry.marked.items())])
    return "\n".join([*rows, journal_text(entry.crew, entry.steps)])


def read_entry(desk, rows, at):
    """Puts the entry on the desk that begins in the row with this number, from 0, and ends where the rows end."""
    name, many = read_head(rows, at, "entry", desk.names)
    marked = {}
    behind = at + 1
    while behind < len(rows) and rows[behind].split(" ")[0] == "mark":
        word, number = read_head(rows, behind, "mark", tuple(marked))
        marked[word] = number
        behind += 1
    yard = read_steps(rows, behind)
    for line, number in enumerate([many, *list(marked.values())], start=at + 1):
        if number > len(yard):
            raise BadDesk(line)
    put_entry(desk, name, Entry(yard.crew, yard.steps, many, marked))


def read_head(rows, at, begin, ahead):
    """The name and the number in the row with this number; the name has to be behind all those ahead of it."""
    words = rows[at].split(" ")
    if len(words) != 3 or words[0] != begin or not is_name(words[1]) or not is_numeral(words[2]):
        raise BadDesk(at + 1)
    if len(ahead) > 0 and words[1] <= ahead[-1]:
        raise BadDesk(at + 1)
    return words[1], int(words[2])


def read_steps(rows, ahead):
    """The yard of the journal that stands behind so many of the rows; no row is as good as an empty one."""
    try:
        return read_journal("\n".join(rows[ahead:]))
    except BadJournal as error:
        raise BadDesk(ahead + error.value)
