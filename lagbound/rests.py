"""Replacing a machine by a reader, and the rests that show that the reader does the same."""

from lagbound.building import check_states
from lagbound.errors import Growing, TwoWords
from lagbound.growth import is_growth
from lagbound.loops import growing_paper
from lagbound.machines import same_alphabets
from lagbound.onlyone import is_two_words, two_words_of
from lagbound.plain import is_whole
from lagbound.readers import Reader, built_reader, empty_reader
from lagbound.shaping import useful_states
from lagbound.stepping import entries_by_state
from lagbound.twins import twins_of, useful_arcs, useful_begins
from lagbound.words import common, is_word


def build(machine):
    """The reader that does the same as the machine."""
    return checked_parts(machine)[0]


def rests(machine):
    """The table of rests of the reader that does the same as the machine."""
    return checked_parts(machine)[1]


def checked_parts(machine):
    """The reader and its table of rests, if the machine tells one word and is steady."""
    twins = twins_of(machine, None)
    two = two_words_of(twins)
    if two is not None:
        raise TwoWords(two)
    growing = growing_paper(twins)
    if growing is not None:
        raise Growing(growing)
    return built_parts(machine)


def built_parts(machine):
    """The reader and its table of rests for a machine that tells one word and is steady."""
    begins = useful_begins(machine)
    if not begins:
        return empty_reader(machine.read, machine.write), [[]]
    arcs = useful_arcs(machine)
    first, start = parted_row(begins)
    numbers = {start: 0}
    rows = [start]
    moves = []
    while len(moves) < len(rows):
        row = rows[len(moves)]
        line = []
        for letter in machine.read:
            reached = reached_pairs(row, arcs[letter])
            if not reached:
                line.append(None)
                continue
            word, target = parted_row(reached)
            if target not in numbers:
                numbers[target] = len(rows)
                rows.append(target)
            line.append((word, numbers[target]))
        check_states(len(rows))
        moves.append(line)
    ends = entries_by_state(machine.ends)
    finals = [final_word(ended_words(row, ends)) for row in rows]
    return built_reader(machine.read, machine.write, first, moves, finals), [list(row) for row in rows]


def reached_pairs(row, arcs):
    """The pairs that arcs lead the pairs of a row to."""
    return [(arc[3], rest + arc[2]) for state, rest in row for arc in arcs.get(state, [])]


def parted_row(pairs):
    """The common prefix of the words of some pairs, and the row that remains behind it."""
    shared = common([pair[1] for pair in pairs])
    return shared, tuple(sorted({(state, word[len(shared):]) for state, word in pairs}))


def ended_words(row, ends):
    """The words that the pairs of a row write when they end."""
    return [rest + end[1] for state, rest in row for end in ends.get(state, [])]


def final_word(words):
    """The word that all of the words are, or None if there are none."""
    return words[0] if words else None


def is_rests(machine, reader, table):
    """Whether the table is a right table of rests for the machine and the reader."""
    if not same_alphabets(machine, reader):
        return False
    if not isinstance(table, list) or len(table) != len(reader):
        return False
    useful = useful_states(machine)
    if not all(is_row(row, useful, machine.write) for row in table):
        return False
    begins = {(state, reader.first + rest): True for state, rest in table[0]}
    if begins != {begin: True for begin in useful_begins(machine)}:
        return False
    return moves_agree(machine, reader, table) and finals_agree(machine, reader, table)


def is_row(row, useful, letters):
    """Whether the row is a list of pairs of a useful state and a word over the alphabet, ordered by state."""
    if not isinstance(row, list):
        return False
    for pair in row:
        if not isinstance(pair, tuple) or len(pair) != 2:
            return False
        if not is_whole(pair[0]) or pair[0] not in useful or not is_word(letters, pair[1]):
            return False
    states = [pair[0] for pair in row]
    return states == sorted(set(states))


def moves_agree(machine, reader, table):
    """Whether the rows of the table lead to each other as the moves of the reader say."""
    arcs = useful_arcs(machine)
    for row, line in zip(table, reader.moves):
        for letter, move in zip(reader.read, line):
            told = []
            if move is not None:
                told = [(state, move[0] + rest) for state, rest in table[move[1]]]
            if set(reached_pairs(row, arcs[letter])) != set(told):
                return False
    return True


def finals_agree(machine, reader, table):
    """Whether the rows of the table end with the final words of the reader."""
    ends = entries_by_state(machine.ends)
    for row, word in zip(table, reader.finals):
        told = [] if word is None else [word]
        if set(ended_words(row, ends)) != set(told):
            return False
    return True


def fate(machine):
    """What becomes of the machine: a paper of two words, a growth paper, or a reader with its table of rests."""
    twins = twins_of(machine, None)
    two = two_words_of(twins)
    if two is not None:
        return "two", two
    growing = growing_paper(twins)
    if growing is not None:
        return "growing", growing
    reader, table = built_parts(machine)
    return "reader", reader, table


def is_fate(machine, paper):
    """Whether the paper is a right fate of the machine."""
    if not isinstance(paper, tuple) or len(paper) not in (2, 3):
        return False
    kind = paper[0]
    if len(paper) == 3:
        return kind == "reader" and isinstance(paper[1], Reader) and is_rests(machine, paper[1], paper[2])
    if kind == "two":
        return is_two_words(machine, paper[1])
    return kind == "growing" and is_growth(machine, paper[1])
