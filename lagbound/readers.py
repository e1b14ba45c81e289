"""Readers: machines that have one course at most for each read word."""

from lagbound.building import check_states, check_written
from lagbound.errors import BadEntry, BadNumber, BadWord, Mismatch, TooLarge
from lagbound.limits import MAX_STATES, MAX_WRITTEN
from lagbound.machines import Machine
from lagbound.plain import in_range
from lagbound.words import check_letters, check_word, is_word_up_to


class Reader:
    """A reading machine: at most one move for each state and letter, and at most one final word for each state."""

    def __init__(self, read, write, first, moves, finals):
        self._read = check_letters(read)
        self._write = check_letters(write)
        self._first = checked_first(write, first)
        self._moves = checked_rows(read, write, moves)
        self._finals = checked_finals(write, len(self._moves), finals)

    @property
    def read(self):
        """The read alphabet."""
        return self._read

    @property
    def write(self):
        """The write alphabet."""
        return self._write

    @property
    def first(self):
        """The word that is written before anything is read."""
        return self._first

    @property
    def moves(self):
        """For each state a list of one move, or None, for each letter."""
        return [list(row) for row in self._moves]

    @property
    def finals(self):
        """For each state the final word or None."""
        return list(self._finals)

    def __len__(self):
        return len(self._moves)

    def __rshift__(self, other):
        return chained(self, other)

    def state_after(self, word):
        """The state after the word, or None if the reader stops."""
        run = run_over(self, 0, check_word(self._read, word))
        return None if run is None else run[0]

    def written_after(self, word):
        """What is written before any final word, or None if the reader stops."""
        run = run_over(self, 0, check_word(self._read, word))
        return None if run is None else self._first + run[1]

    def tell(self, word):
        """The told word, or None."""
        return told_by(self, check_word(self._read, word))

    def tail(self, state, word):
        """What the state writes over the word, its end included, or None."""
        if not in_range(state, 0, len(self._moves) - 1):
            raise BadNumber(state)
        return tail_of(self, state, check_word(self._read, word))


def checked_first(write, first):
    """The word, if it may be written."""
    if not is_word_up_to(write, first, MAX_WRITTEN):
        raise BadWord(first)
    return first


def checked_rows(read, write, moves):
    """A copy of the moves, if they are a row of one move or None for each letter for each state."""
    if not isinstance(moves, (list, tuple)) or len(moves) == 0:
        raise BadEntry("moves", None)
    if len(moves) > MAX_STATES:
        raise TooLarge("states", MAX_STATES)
    for index, row in enumerate(moves):
        if not isinstance(row, (list, tuple)) or len(row) != len(read):
            raise BadEntry("moves", index)
        if not all(move is None or is_move(move, write, len(moves)) for move in row):
            raise BadEntry("moves", index)
    return [list(row) for row in moves]


def is_move(value, write, size):
    """Whether the value has the form of a move of a reader with so many states."""
    if not isinstance(value, tuple) or len(value) != 2:
        return False
    word, target = value
    return is_word_up_to(write, word, MAX_WRITTEN) and in_range(target, 0, size - 1)


def checked_finals(write, size, finals):
    """A copy of the final words, if they are one or None for each state."""
    if not isinstance(finals, (list, tuple)) or len(finals) != size:
        raise BadEntry("finals", None)
    for index, word in enumerate(finals):
        if word is not None and not is_word_up_to(write, word, MAX_WRITTEN):
            raise BadEntry("finals", index)
    return list(finals)


def built_reader(read, write, first, moves, finals):
    """The reader of these parts, if it keeps the limits of results."""
    check_states(len(moves))
    words = [first] + [move[0] for row in moves for move in row if move is not None]
    check_written(words + [word for word in finals if word is not None])
    return Reader(read, write, first, moves, finals)


def empty_reader(read, write):
    """The reader that takes nothing."""
    check_letters(read)
    check_letters(write)
    return Reader(read, write, "", [[None] * len(read)], [None])


def reader_machine(reader):
    """The machine with the same states that takes and tells the same."""
    arcs = []
    for source, row in enumerate(reader.moves):
        for letter, move in zip(reader.read, row):
            if move is not None:
                arcs.append((source, letter, move[0], move[1]))
    ends = [(state, word) for state, word in enumerate(reader.finals) if word is not None]
    return Machine(reader.read, reader.write, len(reader), begins=[(0, reader.first)], arcs=arcs, ends=ends)


def run_over(reader, state, word):
    """The pair of the state that moves over the word lead to and what they write, or None if a move is missing."""
    places = {letter: place for place, letter in enumerate(reader.read)}
    moves = reader.moves
    at = state
    words = []
    for letter in word:
        move = moves[at][places[letter]]
        if move is None:
            return None
        words.append(move[0])
        at = move[1]
    return at, "".join(words)


def told_by(reader, word):
    """The told word for a read word of any length, or None."""
    rest = tail_of(reader, 0, word)
    return None if rest is None else reader.first + rest


def tail_of(reader, state, word):
    """What the moves from the state over the word write, and the final word behind them, or None."""
    run = run_over(reader, state, word)
    if run is None:
        return None
    final = reader.finals[run[0]]
    return None if final is None else run[1] + final


def chained(first, second):
    """The reader that runs first and lets second read what first tells."""
    if first.write != second.read:
        raise Mismatch()
    start = run_over(second, 0, first.first)
    if start is None:
        return empty_reader(first.read, second.write)
    numbers = {(0, start[0]): 0}
    pairs = [(0, start[0])]
    moves = []
    first_moves = first.moves
    while len(moves) < len(pairs):
        left, right = pairs[len(moves)]
        row = []
        for move in first_moves[left]:
            run = None if move is None else run_over(second, right, move[0])
            if run is None:
                row.append(None)
                continue
            pair = (move[1], run[0])
            if pair not in numbers:
                numbers[pair] = len(pairs)
                pairs.append(pair)
            row.append((run[1], numbers[pair]))
        check_states(len(pairs))
        moves.append(row)
    finals = chained_finals(first, second, pairs)
    return built_reader(first.read, second.write, second.first + start[1], moves, finals)


def chained_finals(first, second, pairs):
    """For each pair of states of the two readers the final word or None."""
    words = first.finals
    finals = []
    for left, right in pairs:
        finals.append(None if words[left] is None else tail_of(second, right, words[left]))
    return finals
