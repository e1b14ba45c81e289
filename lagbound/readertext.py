"""The text of a reader, and the reader of a text."""

from lagbound.errors import BadLine
from lagbound.limits import MAX_STATES
from lagbound.linetext import EXACT, LETTER, LETTERS, NUMERAL, SHOWN, read_line, split_lines
from lagbound.readers import Reader
from lagbound.words import show_word

# How many words at the front of a line no other line of its kind may have.
OWN_WORDS = {"move": 3, "final": 2}


def show_reader(reader):
    """The text of the reader."""
    lines = [f"reader {reader.read} {reader.write} {len(reader)} {show_word(reader.first)}"]
    for source, row in enumerate(reader.moves):
        for letter, move in zip(reader.read, row):
            if move is not None:
                lines.append(f"move {source} {letter} {show_word(move[0])} {move[1]}")
    for state, word in enumerate(reader.finals):
        if word is not None:
            lines.append(f"final {state} {show_word(word)}")
    return "\n".join(lines)


def read_reader(text):
    """The reader of the text."""
    lines = split_lines(text)
    read, write, size, first = read_head(lines[0])
    moves = [[None] * len(read) for _ in range(size)]
    finals = [None] * size
    for values in read_lines(lines, read, write, size):
        if values[0] == "move":
            _, source, letter, word, target = values
            moves[source][read.index(letter)] = (word, target)
        else:
            _, state, word = values
            finals[state] = word
    return Reader(read, write, first, moves, finals)


def read_head(words):
    """The alphabets, the size and the first word of the first line."""
    forms = [(EXACT, "reader"), (LETTERS, None), (LETTERS, None), (NUMERAL, (1, MAX_STATES))]
    # The first word is over an alphabet that stands before it in the line.
    _, _, write, _ = read_line(1, words[:len(forms)], forms)
    return read_line(1, words, forms + [(SHOWN, write)])[1:]


def read_lines(lines, read, write, size):
    """The list of the values of each line behind the first one."""
    state = (NUMERAL, (0, size - 1))
    written = (SHOWN, write)
    forms = {
        "move": [(EXACT, "move"), state, (LETTER, read), written, state],
        "final": [(EXACT, "final"), state, written],
    }
    found = {}
    for number, words in enumerate(lines[1:], start=2):
        kind = words[0]
        if kind not in forms:
            raise BadLine(number, 1)
        many = OWN_WORDS[kind]
        own = tuple(read_line(number, words[:many], forms[kind][:many]))
        # A line that is repeated is wrong before anything behind its own words is.
        if own in found:
            raise BadLine(number, many)
        found[own] = read_line(number, words, forms[kind])
    return list(found.values())
