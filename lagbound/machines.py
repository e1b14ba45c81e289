"""Machines: begins, arcs that read a letter and write a word, and ends."""

from lagbound.checks import check_number
from lagbound.errors import BadEntry, TooLarge
from lagbound.limits import MAX_ENTRIES, MAX_STATES, MAX_WRITTEN
from lagbound.plain import in_range
from lagbound.words import check_letters, is_letter, is_word_up_to, word_key


class Machine:
    """Words that are written while words are read, by states and entries."""

    def __init__(self, read, write, size, *, begins=(), arcs=(), ends=()):
        self._read = check_letters(read)
        self._write = check_letters(write)
        self._size = check_number(size, 0, MAX_STATES)
        self._begins = checked_pairs("begins", begins, write, size)
        self._arcs = checked_arcs(arcs, read, write, size)
        self._ends = checked_pairs("ends", ends, write, size)

    @property
    def read(self):
        """The read alphabet."""
        return self._read

    @property
    def write(self):
        """The write alphabet."""
        return self._write

    @property
    def size(self):
        """The number of states."""
        return self._size

    @property
    def begins(self):
        """The begins in order."""
        return list(self._begins)

    @property
    def arcs(self):
        """The arcs in order."""
        return list(self._arcs)

    @property
    def ends(self):
        """The ends in order."""
        return list(self._ends)

    def __len__(self):
        return len(list(range(self._size)))

    def __iter__(self):
        return iter(self._arcs)


def same_alphabets(first, second):
    """Whether two machines or readers have the same read alphabet and the same write alphabet."""
    return first.read == second.read and first.write == second.write


def is_pair(value, write, size):
    """Whether the value has the form of a begin or an end."""
    if not isinstance(value, tuple) or len(value) != 2:
        return False
    state, word = value
    return in_range(state, 0, size - 1) and is_word_up_to(write, word, MAX_WRITTEN)


def is_arc(value, read, write, size):
    """Whether the value has the form of an arc."""
    if not isinstance(value, tuple) or len(value) != 4:
        return False
    source, letter, word, target = value
    return is_letter(read, letter) and is_pair((source, word), write, size) and in_range(target, 0, size - 1)


def pair_key(pair):
    """What begins and ends are compared by."""
    state, word = pair
    return state, word_key(word)


def arc_key(arc):
    """What arcs are compared by."""
    source, letter, word, target = arc
    return source, letter, word_key(word), target


def check_many(place, entries):
    """The entries, if they are a list or a tuple that is not too long."""
    if not isinstance(entries, (list, tuple)):
        raise BadEntry(place, None)
    if len(entries) > MAX_ENTRIES:
        raise TooLarge(place, MAX_ENTRIES)
    return entries


def checked_pairs(place, entries, write, size):
    """The begins or ends in order, each once."""
    for index, entry in enumerate(check_many(place, entries)):
        if not is_pair(entry, write, size):
            raise BadEntry(place, index)
    return sorted(list({entry: True for entry in entries}), key=pair_key)


def checked_arcs(entries, read, write, size):
    """The arcs in order, each once."""
    for index, entry in enumerate(check_many("arcs", entries)):
        if not is_arc(entry, read, write, size):
            raise BadEntry("arcs", index)
    return sorted(list({entry: True for entry in entries}), key=arc_key)
