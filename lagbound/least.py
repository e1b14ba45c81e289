"""Readers that tell as early as possible, and readers with as few states as possible."""

from lagbound.checks import check_number
from lagbound.partings import Partings
from lagbound.plain import is_whole
from lagbound.readers import Reader, built_reader, empty_reader, reader_machine, run_over, tail_of
from lagbound.shaping import useful_states
from lagbound.stepping import least_endings
from lagbound.tails import alike_states, reader_tails
from lagbound.words import check_word, common, is_word


def useful_reader_states(reader):
    """The states that told words go through, in ascending order."""
    return useful_states(reader_machine(reader))


def ahead_table(reader):
    """For each state None, or its ahead word and two read words whose tails share exactly this word."""
    tails = reader_tails(reader)
    table = []
    for state in range(len(reader)):
        if state in tails.endings:
            table.append((tails.ahead_word(state), tails.endings[state][0], tails.common[state][1]))
        else:
            table.append(None)
    return table


def is_ahead(reader, table):
    """Whether the table is a right ahead table of the reader."""
    if not isinstance(table, list) or len(table) != len(reader):
        return False
    machine = reader_machine(reader)
    endings = least_endings(machine.arcs, machine.ends)
    for state, item in enumerate(table):
        if (item is None) != (state not in endings):
            return False
        if item is not None and not is_shared(reader, state, item):
            return False
    return all([begins_all(reader, table, state) for state in range(len(reader))])


def is_shared(reader, state, item):
    """Whether the item is a word that is exactly the common prefix of two tails of the state, which it tells."""
    if not isinstance(item, tuple) or len(item) != 3:
        return False
    ahead, word1, word2 = item
    if not is_word(reader.read, word1) or not is_word(reader.read, word2):
        return False
    tails = [tail_of(reader, state, word1), tail_of(reader, state, word2)]
    return None not in tails and common(tails) == ahead


def begins_all(reader, table, state):
    """Whether all that the table tells to stand behind the state begins with the ahead word of its item."""
    if table[state] is None:
        return True
    last = reader.finals[state]
    texts = [] if last is None else [last]
    for move in reader.moves[state]:
        if move is not None and table[move[1]] is not None:
            texts.append(move[0] + table[move[1]][0])
    return all([text.startswith(table[state][0]) for text in texts])


def early(reader):
    """The early form of the reader."""
    useful = useful_reader_states(reader)
    if not useful:
        return empty_reader(reader.read, reader.write)
    tails = reader_tails(reader)
    lines = tails.early_lines()
    numbers = {state: number for number, state in enumerate(useful)}
    moves = []
    finals = []
    for state in useful:
        last, line = lines[state]
        moves.append([None if move is None else (move[0], numbers[move[1]]) for move in line])
        finals.append(last)
    return built_reader(reader.read, reader.write, reader.first + tails.ahead_word(0), moves, finals)


def is_early(reader):
    """Whether the reader is its own early form."""
    if is_empty(reader):
        return True
    tails = reader_tails(reader)
    ahead = [tails.ahead_word(state) for state in tails.endings]
    return len(useful_reader_states(reader)) == len(reader) and not any(ahead)


def is_empty(reader):
    """Whether the reader is the empty one."""
    return reader.first == "" and reader.finals == [None] and reader.moves == [[None] * len(reader.read)]


def least(reader):
    """The least form of the reader."""
    return united(early(reader))


def united(reader):
    """The early reader with all states that have equal tails made one, numbered by finding."""
    groups = alike_states(reader_tails(reader).early_lines())
    if not groups:
        return reader
    lines = reader.moves
    numbers = {groups[0]: 0}
    members = [0]
    moves = []
    while len(moves) < len(members):
        line = lines[members[len(moves)]]
        row = []
        for move in line:
            if move is None:
                row.append(None)
                continue
            group = groups[move[1]]
            if group not in numbers:
                numbers[group] = len(members)
                members.append(move[1])
            row.append((move[0], numbers[group]))
        moves.append(row)
    finals = reader.finals
    return Reader(reader.read, reader.write, reader.first, moves, [finals[state] for state in members])


def is_least(reader):
    """Whether the reader is its own least form."""
    if not is_early(reader):
        return False
    form = united(reader)
    return form.moves == reader.moves and form.finals == reader.finals


def apart(reader, i, j):
    """The least read word for which the tails of the two states differ, or None."""
    check_number(i, 0, len(reader) - 1)
    check_number(j, 0, len(reader) - 1)
    return Partings(reader_tails(reader)).word((i, ""), (j, ""))


def apart_table(reader):
    """For each two states the least read word for which their tails differ, or None if there is not one for each."""
    partings = Partings(reader_tails(reader))
    table = []
    for i, j in state_pairs(reader):
        word = partings.word((i, ""), (j, ""))
        if word is None:
            return None
        table.append((i, j, word))
    return table


def state_pairs(reader):
    """All pairs of two states, the lesser one first, in order."""
    return [(i, j) for i in range(len(reader)) for j in range(i + 1, len(reader))]


def is_apart(reader, table):
    """Whether the table tells for each two states a read word for which their tails differ."""
    pairs = state_pairs(reader)
    if not isinstance(table, list) or len(table) != len(pairs):
        return False
    return all([parts_pair(reader, pair, row) for pair, row in zip(pairs, table)])


def parts_pair(reader, pair, row):
    """Whether the row has the two states, and a read word for which their tails differ."""
    if not isinstance(row, tuple) or len(row) != 3:
        return False
    i, j, word = row
    if not is_whole(i) or not is_whole(j) or (i, j) != pair or not is_word(reader.read, word):
        return False
    return tail_of(reader, i, word) != tail_of(reader, j, word)


def sure(reader, word):
    """The common prefix of the told words of all read words that begin with the word, or None if there are none."""
    run = run_over(reader, 0, check_word(reader.read, word))
    tails = reader_tails(reader)
    if run is None or run[0] not in tails.endings:
        return None
    return reader.first + run[1] + tails.ahead_word(run[0])
