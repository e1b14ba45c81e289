"""Machines for the tests, and plain reference answers about them."""

import itertools

from lagbound.machines import Machine
from support import same


def random_machine(source, read="ab", write="xy", most=4, words=("", "", "x", "y", "xy", "xx")):
    """A small machine with few entries, so that some words have no course, some one and some several."""
    size = source.randint(1, most)
    state = lambda: source.randrange(size)
    begins = [(state(), source.choice(words)) for _ in range(source.randint(0, 3))]
    ends = [(state(), source.choice(words)) for _ in range(source.randint(0, 3))]
    arcs = [(state(), source.choice(read), source.choice(words), state()) for _ in range(source.randint(0, 4 * size))]
    return Machine(read, write, size, begins=begins, arcs=arcs, ends=ends)


def machine_for_judging():
    """A machine with two states in which many papers are right, and states, letters and words are easily confused."""
    return Machine(
        "ab", "xy", 2,
        begins=[(0, ""), (0, "x"), (1, "y")],
        arcs=[(0, "a", "x", 1), (0, "a", "", 0), (1, "b", "xy", 0), (1, "a", "y", 1)],
        ends=[(1, ""), (1, "x"), (0, "yy")],
    )


def course_key(course):
    """The course order, straight from points [18] and [21]."""
    begin, arcs, end = course
    pair = lambda told: (told[0], len(told[1]), told[1])
    return pair(begin), [(arc[0], arc[1], len(arc[2]), arc[2], arc[3]) for arc in arcs], pair(end)


def all_courses(machine, word):
    """All courses that read the word, in order, by trying every row of arcs that read the letters."""
    by_letter = [[arc for arc in machine.arcs if arc[1] == letter] for letter in word]
    found = []
    for begin in machine.begins:
        for arcs in itertools.product(*by_letter):
            states = [begin[0]] + [arc[3] for arc in arcs]
            if all(arc[0] == state for arc, state in zip(arcs, states)):
                found.extend((begin, list(arcs), end) for end in machine.ends if end[0] == states[-1])
    return sorted(found, key=course_key)


def all_told(machine, word):
    """All told words for the read word, in the word order."""
    told = {begin[1] + "".join(arc[2] for arc in arcs) + end[1] for begin, arcs, end in all_courses(machine, word)}
    return sorted(told, key=lambda row: (len(row), row))


def strictly_in(value, rows):
    return any(same(value, row) for row in rows)


def really_way(machine, paper):
    """Point [20], compared so that no flag passes for an integer and no list for a tuple."""
    if type(paper) is not tuple or len(paper) != 2 or not strictly_in(paper[0], machine.begins):
        return False
    if type(paper[1]) is not list or not all(strictly_in(arc, machine.arcs) for arc in paper[1]):
        return False
    states = [paper[0][0]] + [arc[3] for arc in paper[1]]
    return all(arc[0] == state for arc, state in zip(paper[1], states))


def really_course(machine, paper):
    if type(paper) is not tuple or len(paper) != 3 or not really_way(machine, paper[:2]):
        return False
    last = paper[1][-1][3] if paper[1] else paper[0][0]
    return strictly_in(paper[2], machine.ends) and paper[2][0] == last


def variants(value, fillers):
    """All values that differ from the value at one place: an item replaced, left out, doubled or of another kind."""
    for filler in fillers:
        if not same(filler, value):
            yield filler
    if isinstance(value, (list, tuple)):
        kind = type(value)
        yield (list if kind is tuple else tuple)(value)
        for at, item in enumerate(value):
            yield kind(value[:at] + value[at + 1:])
            yield kind(value[:at] + kind([item]) + value[at:])
            for other in variants(item, fillers):
                yield kind(value[:at] + kind([other]) + value[at + 1:])
        yield kind(value + kind([None]))
