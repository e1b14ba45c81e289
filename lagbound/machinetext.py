"""The text of a machine, and the machine of a text."""

from lagbound.errors import BadLine
from lagbound.limits import MAX_ENTRIES, MAX_STATES
from lagbound.linetext import EXACT, LETTER, LETTERS, NUMERAL, SHOWN, read_line, split_lines
from lagbound.machines import Machine
from lagbound.words import show_word


def show_machine(machine):
    """The text of the machine."""
    lines = [f"machine {machine.read} {machine.write} {machine.size}"]
    for state, word in machine.begins:
        lines.append(f"begin {state} {show_word(word)}")
    for source, letter, word, target in machine.arcs:
        lines.append(f"arc {source} {letter} {show_word(word)} {target}")
    for state, word in machine.ends:
        lines.append(f"end {state} {show_word(word)}")
    return "\n".join(lines)


def read_machine(text):
    """The machine of the text."""
    lines = split_lines(text)
    first_forms = [(EXACT, "machine"), (LETTERS, None), (LETTERS, None), (NUMERAL, (0, MAX_STATES))]
    _, read, write, size = read_line(1, lines[0], first_forms)
    state = (NUMERAL, (0, size - 1))
    written = (SHOWN, write)
    forms = {
        "begin": [state, written],
        "arc": [state, (LETTER, read), written, state],
        "end": [state, written],
    }
    entries = {"begin": [], "arc": [], "end": []}
    for number, words in enumerate(lines[1:], start=2):
        kind = words[0]
        if kind not in forms or len(entries[kind]) == MAX_ENTRIES:
            raise BadLine(number, 1)
        values = read_line(number, words, [(EXACT, kind)] + forms[kind])
        entries[kind].append(tuple(values[1:]))
    return Machine(read, write, size, begins=entries["begin"], arcs=entries["arc"], ends=entries["end"])
