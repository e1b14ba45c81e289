"""Acceptors: machines that stand for sets of words."""

from lagbound.errors import BadEntry, Mismatch, TooLarge
from lagbound.limits import MAX_ACCEPTOR
from lagbound.minimal import least_tables, pair_tables
from lagbound.plain import in_range
from lagbound.words import check_letters, check_word, is_word


class Acceptor:
    """A set of words over one alphabet, by states, moves and ends."""

    def __init__(self, letters, moves, ends):
        self._letters = check_letters(letters)
        self._moves = checked_moves(letters, moves)
        self._ends = checked_ends(len(self._moves), ends)

    @property
    def letters(self):
        """The alphabet."""
        return self._letters

    @property
    def moves(self):
        """For each state the list of the next states, one for each letter."""
        return [list(row) for row in self._moves]

    @property
    def ends(self):
        """The accepting states in ascending order."""
        return list(self._ends)

    def __len__(self):
        return len(self._moves)

    def __contains__(self, value):
        if not is_word(self._letters, value):
            return False
        return moved(self._letters, self._moves, value) in self._ends

    def __and__(self, other):
        return joined(self, other, True)

    def __or__(self, other):
        return joined(self, other, False)

    def __invert__(self):
        others = [state for state in range(len(self._moves)) if state not in self._ends]
        moves, ends = least_tables(self._moves, others)
        return Acceptor(self._letters, moves, ends)

    def state_after(self, word):
        """The state after the word."""
        return moved(self._letters, self._moves, check_word(self._letters, word))


def checked_moves(letters, moves):
    """A copy of the moves, if they are a row of one state for each letter for each state."""
    if not isinstance(moves, (list, tuple)) or len(moves) == 0:
        raise BadEntry("moves", None)
    if len(moves) > MAX_ACCEPTOR:
        raise TooLarge("states", MAX_ACCEPTOR)
    for index, row in enumerate(moves):
        if not isinstance(row, (list, tuple)) or len(row) != len(letters):
            raise BadEntry("moves", index)
        if not all(in_range(state, 0, len(moves) - 1) for state in row):
            raise BadEntry("moves", index)
    return [list(row) for row in moves]


def checked_ends(size, ends):
    """The ends in ascending order, each once, if they are states below the size."""
    if not isinstance(ends, (list, tuple)):
        raise BadEntry("ends", None)
    for index, state in enumerate(ends):
        if not in_range(state, 0, size - 1):
            raise BadEntry("ends", index)
    return sorted(set(ends))


def moved(letters, moves, word):
    """The state that the moves lead to over the word."""
    places = {letter: place for place, letter in enumerate(letters)}
    state = 0
    for letter in word:
        state = moves[state][places[letter]]
    return state


def joined(first, second, both):
    """The least acceptor of the words in both acceptors, or else of those in at least one."""
    if first.letters != second.letters:
        raise Mismatch()
    rows, pairs = pair_tables(first.moves, second.moves)
    left = {state: True for state in first.ends}
    right = {state: True for state in second.ends}
    if both:
        finals = [number for number, (p, q) in enumerate(pairs) if p in left and q in right]
    else:
        finals = [number for number, (p, q) in enumerate(pairs) if p in left or q in right]
    moves, ends = least_tables(rows, finals)
    return Acceptor(first.letters, moves, ends)


def least_acceptor(acceptor):
    """The least acceptor of the same words."""
    moves, ends = least_tables(acceptor.moves, acceptor.ends)
    return Acceptor(acceptor.letters, moves, ends)


def is_least_acceptor(acceptor):
    """Whether the acceptor is its own least acceptor, the numbers of the states included."""
    moves, ends = least_tables(acceptor.moves, acceptor.ends)
    return moves == acceptor.moves and ends == acceptor.ends
