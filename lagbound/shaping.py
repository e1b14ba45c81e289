"""Changing machines: trimming, renumbering, uniting, turning and restricting them."""

from lagbound.building import built_machine, numbered_pairs
from lagbound.errors import BadEntry, Mismatch
from lagbound.graphs import all_reached, edge_table
from lagbound.machines import Machine, same_alphabets
from lagbound.plain import in_range
from lagbound.stepping import arcs_by_letter
from lagbound.words import turn_word


def useful_states(machine):
    """The states that courses go through, in ascending order."""
    onward = edge_table([(arc[0], arc[3]) for arc in machine.arcs])
    backward = edge_table([(arc[3], arc[0]) for arc in machine.arcs])
    reached = all_reached([begin[0] for begin in machine.begins], onward)
    ending = all_reached([end[0] for end in machine.ends], backward)
    return [state for state in range(machine.size) if state in reached and state in ending]


def trim(machine):
    """The machine with its useful states alone."""
    useful = useful_states(machine)
    return moved_machine(machine, len(useful), {state: number for number, state in enumerate(useful)})


def renumber(machine, order):
    """The machine in which each state has the number that stands at its place in the order."""
    if not isinstance(order, list) or len(order) != machine.size:
        raise BadEntry("order", None)
    known = {}
    for index, state in enumerate(order):
        if not in_range(state, 0, machine.size - 1) or state in known:
            raise BadEntry("order", index)
        known[state] = True
    return moved_machine(machine, machine.size, dict(enumerate(order)))


def moved_machine(machine, size, numbers):
    """The machine with new numbers for its states; entries with a state that has none are left out."""
    begins = moved_pairs(machine.begins, numbers)
    arcs = moved_arcs(machine.arcs, numbers)
    ends = moved_pairs(machine.ends, numbers)
    return Machine(machine.read, machine.write, size, begins=begins, arcs=arcs, ends=ends)


def moved_pairs(pairs, numbers):
    """The begins or ends with new numbers for their states."""
    return [(numbers[state], word) for state, word in pairs if state in numbers]


def moved_arcs(arcs, numbers):
    """The arcs with new numbers for their states."""
    kept = [arc for arc in arcs if arc[0] in numbers and arc[3] in numbers]
    return [(numbers[source], letter, word, numbers[target]) for source, letter, word, target in kept]


def unite(first, second):
    """The machine with all courses of both."""
    if not same_alphabets(first, second):
        raise Mismatch()
    size = first.size + second.size
    numbers = {state: first.size + state for state in range(second.size)}
    begins = first.begins + moved_pairs(second.begins, numbers)
    arcs = first.arcs + moved_arcs(second.arcs, numbers)
    ends = first.ends + moved_pairs(second.ends, numbers)
    return built_machine(first.read, first.write, size, begins, arcs, ends)


def turn(machine):
    """The machine that reads and tells the reversed words."""
    begins = [(state, turn_word(word)) for state, word in machine.ends]
    arcs = [(target, letter, turn_word(word), source) for source, letter, word, target in machine.arcs]
    ends = [(state, turn_word(word)) for state, word in machine.begins]
    return Machine(machine.read, machine.write, machine.size, begins=begins, arcs=arcs, ends=ends)


def restrict(machine, acceptor):
    """The machine on the words that the acceptor accepts."""
    if machine.read != acceptor.letters:
        raise Mismatch()
    table = arcs_by_letter(machine)
    moves = acceptor.moves
    places = {letter: place for place, letter in enumerate(machine.read)}
    final = {end: True for end in acceptor.ends}

    def targets_of(pair, letter):
        """The pairs that arcs with the letter lead to."""
        after = moves[pair[1]][places[letter]]
        return [(arc[3], after) for arc in table[letter].get(pair[0], [])]

    numbers = numbered_pairs([(begin[0], 0) for begin in machine.begins], machine.read, targets_of)
    begins = [(numbers[(begin[0], 0)], begin[1]) for begin in machine.begins]
    arcs = []
    ends = []
    for (state, held), number in numbers.items():
        for letter in machine.read:
            for _, _, word, target in table[letter].get(state, []):
                arcs.append((number, letter, word, numbers[(target, moves[held][places[letter]])]))
        if held in final:
            ends.extend([(number, end[1]) for end in machine.ends if end[0] == state])
    return built_machine(machine.read, machine.write, len(numbers), begins, arcs, ends)
