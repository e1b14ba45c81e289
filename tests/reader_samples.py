"""Readers for the tests, and plain reference answers about them."""

import itertools
import os.path

from lagbound.readers import Reader
from support import words_up_to


def reader_parts(reader):
    """All that the properties of a reader tell."""
    return reader.read, reader.write, reader.first, reader.moves, reader.finals


def random_reader(source, read="ab", write="xy", most=4, words=("", "", "x", "y", "xy", "xx"), full=0.75):
    """A small reader in which some moves and final words are missing."""
    size = source.randint(1, most)
    moves = [[(source.choice(words), source.randrange(size)) if source.random() < full else None for _ in read]
             for _ in range(size)]
    finals = [source.choice(words) if source.random() < full else None for _ in range(size)]
    return Reader(read, write, source.choice(words), moves, finals)


def walk(reader, word, state=0):
    """Point [45]: the pair of what the moves write and the state behind them, or None."""
    written = ""
    for letter in word:
        move = reader.moves[state][reader.read.index(letter)]
        if move is None:
            return None
        written, state = written + move[0], move[1]
    return written, state


def told_by(reader, word):
    """Point [45]: the told word or None."""
    run = walk(reader, word)
    if run is None or reader.finals[run[1]] is None:
        return None
    return reader.first + run[0] + reader.finals[run[1]]


def really_chained(first, second):
    """Point [49], for readers of which the second can move over the first word: the parts, with all found pairs."""
    start = walk(second, first.first)
    pairs, moves = [(0, start[1])], []
    for i, j in pairs:
        row = []
        for move in first.moves[i]:
            run = walk(second, move[0], j) if move else None
            if run and (move[1], run[1]) not in pairs:
                pairs.append((move[1], run[1]))
            row.append((run[0], pairs.index((move[1], run[1]))) if run else None)
        moves.append(row)
    finals = []
    for i, j in pairs:
        run = None if first.finals[i] is None else walk(second, first.finals[i], j)
        finals.append(None if run is None or second.finals[run[1]] is None else run[0] + second.finals[run[1]])
    return first.read, second.write, second.first + start[0], moves, finals


def tail_by(reader, state, word):
    """Point [46]: the tail or None."""
    run = walk(reader, word, state)
    return None if run is None or reader.finals[run[1]] is None else run[0] + reader.finals[run[1]]


def common_by(words):
    """The common prefix of the words that are not None, or None if there are none."""
    told = [word for word in words if word is not None]
    return os.path.commonprefix(told) if told else None


def useful_by(reader):
    """Point [59], by closing a relation."""
    size = len(reader.moves)
    reach = {(state, state) for state in range(size)}
    reach |= {(state, move[1]) for state, row in enumerate(reader.moves) for move in row if move}
    for middle, first, last in itertools.product(range(size), repeat=3):
        if (first, middle) in reach and (middle, last) in reach:
            reach.add((first, last))
    ending = [state for state in range(size) if any((state, last) in reach and reader.finals[last] is not None
                                                    for last in range(size))]
    return [state for state in ending if (0, state) in reach]


def early_by(reader, ahead):
    """Point [61]: the parts of the early form, from the ahead words of all states."""
    useful = useful_by(reader)
    if not useful:
        return reader.read, reader.write, "", [[None] * len(reader.read)], [None]
    moves = [[(w[0] + ahead[w[1]])[len(ahead[state]):] if w and w[1] in useful else None for w in reader.moves[state]]
             for state in useful]
    moves = [[None if word is None else (word, useful.index(reader.moves[state][at][1])) for at, word in enumerate(row)]
             for state, row in zip(useful, moves)]
    finals = [None if reader.finals[state] is None else reader.finals[state][len(ahead[state]):] for state in useful]
    return reader.read, reader.write, reader.first + ahead[0], moves, finals


def least_by(reader, most):
    """Point [62]: the parts of the least form, from the told words of read words of all lengths that matter.

    States are the unlike ways in which told words go on behind read words; `most` letters tell them apart.
    """
    endings = words_up_to(reader.read, most)

    def behind(word):
        told = [told_by(reader, word + ending) for ending in endings]
        shared = common_by(told)
        return shared, tuple(None if row is None else row[len(shared):] for row in told)

    start, row = behind("")
    if start is None:
        return reader.read, reader.write, "", [[None] * len(reader.read)], [None]
    words, rows, moves = [""], [row], []
    for word in words:
        written = behind(word)[0]
        line = []
        for letter in reader.read:
            shared, row = behind(word + letter)
            if shared is not None and row not in rows:
                words.append(word + letter)
                rows.append(row)
            line.append(None if shared is None else (shared[len(written):], rows.index(row)))
        moves.append(line)
    return reader.read, reader.write, start, moves, [row[0] for row in rows]


def full_reader(source, read="ab", most=3, words=("", "x", "y", "xy", "xx")):
    """A random reader with all moves, few final words, and at least one useful state."""
    while True:
        reader = random_reader(source, read=read, most=most, words=words, full=1)
        finals = [word if source.random() < 0.5 else None for word in reader.finals]
        reader = Reader(reader.read, reader.write, reader.first, reader.moves, finals)
        if useful_by(reader):
            return reader


def doubled(source, reader):
    """A reader that is alike and has a copy of one state, to which some of the moves lead."""
    state, size, moves, finals = source.randrange(len(reader.moves)), len(reader.moves), reader.moves, reader.finals
    moves = [[(move[0], size) if move and move[1] == state and source.random() < 0.5 else move for move in row]
             for row in moves + [moves[state]]]
    return Reader(reader.read, reader.write, reader.first, moves, finals + [finals[state]])


def delayed(source, reader):
    """A reader that is alike and writes later what all moves to one state write last."""
    state, moves, finals, first = source.randrange(len(reader.moves)), reader.moves, reader.finals, reader.first
    words = [move[0] for row in moves for move in row if move and move[1] == state] + ([first] if state == 0 else [])
    shared = os.path.commonprefix([word[::-1] for word in words])[::-1]
    if not shared:
        return reader
    held = shared[-source.randint(1, len(shared)):]
    moves[state] = [move and (held + move[0], move[1]) for move in moves[state]]
    moves = [[(move[0][:len(move[0]) - len(held)], state) if move and move[1] == state else move for move in row]
             for row in moves]
    finals[state] = None if finals[state] is None else held + finals[state]
    return Reader(reader.read, reader.write, first[:len(first) - len(held)] if state == 0 else first, moves, finals)


def disguised(source, reader, times=4):
    """A reader that is alike to the reader, with other states and other words."""
    for _ in range(times):
        reader = source.choice((doubled, delayed, delayed))(source, reader)
    return reader


def spoilt_reader(source, reader):
    """A reader with another word or another target at one place."""
    moves, finals, state, at = reader.moves, reader.finals, source.randrange(len(reader.moves)), source.randrange(len(reader.read))
    if source.random() < 0.3:
        finals[state] = source.choice(("", "x", None, (finals[state] or "") + "x"))
    elif moves[state][at] and source.random() < 0.7:
        word, target = moves[state][at]
        moves[state][at] = (source.choice(("", "x", "y", word + "x", word[1:])), target)
    else:
        moves[state][at] = source.choice((None, ("", source.randrange(len(moves)))))
    return Reader(reader.read, reader.write, reader.first, moves, finals)


def wheel(size, words, lasts, read="a", write="xy", first=""):
    """A reader of so many states in a round; `words` and `lasts` tell the words of its moves and its final words."""
    moves = [[(words(state), (state + 1) % size) for _ in read] for state in range(size)]
    return Reader(read, write, first, moves, [lasts(state) for state in range(size)])
