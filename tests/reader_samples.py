"""Readers for the tests, and plain reference answers about them."""

from lagbound.readers import Reader


def reader_parts(reader):
    """All that the properties of a reader tell."""
    return reader.read, reader.write, reader.first, reader.moves, reader.finals


def random_reader(source, read="ab", write="xy", most=4, words=("", "", "x", "y", "xy", "xx"), full=0.75):
    """A small reader in which some moves and final words are missing."""
    size = source.randint(1, most)
    moves = [[(source.choice(words), source.randrange(size)) if source.random() < full else None for _ in read]
             for _ in range(size)]
    finals = [source.choice(words) if source.random() < full else None for _ in range(size)]
    return Reader(read, write, source.choice(words), moves, finals)


def walk(reader, word, state=0):
    """Point [45]: the pair of what the moves write and the state behind them, or None."""
    written = ""
    for letter in word:
        move = reader.moves[state][reader.read.index(letter)]
        if move is None:
            return None
        written, state = written + move[0], move[1]
    return written, state


def told_by(reader, word):
    """Point [45]: the told word or None."""
    run = walk(reader, word)
    if run is None or reader.finals[run[1]] is None:
        return None
    return reader.first + run[0] + reader.finals[run[1]]


def really_chained(first, second):
    """Point [49], for readers of which the second can move over the first word: the parts, with all found pairs."""
    start = walk(second, first.first)
    pairs, moves = [(0, start[1])], []
    for i, j in pairs:
        row = []
        for move in first.moves[i]:
            run = walk(second, move[0], j) if move else None
            if run and (move[1], run[1]) not in pairs:
                pairs.append((move[1], run[1]))
            row.append((run[0], pairs.index((move[1], run[1]))) if run else None)
        moves.append(row)
    finals = []
    for i, j in pairs:
        run = None if first.finals[i] is None else walk(second, first.finals[i], j)
        finals.append(None if run is None or second.finals[run[1]] is None else run[0] + second.finals[run[1]])
    return first.read, second.write, second.first + start[0], moves, finals
