"""Two machines side by side: the pairs of states that a read word leads to together, and the steps between them.

A machine may stand beside itself.
"""

from lagbound.errors import Mismatch, TooLarge
from lagbound.graphs import all_reached, edge_table
from lagbound.limits import MAX_PAIRS, MAX_STEPS
from lagbound.machines import same_alphabets
from lagbound.shaping import useful_states
from lagbound.words import word_key


class Twins:
    """The twin pairs and the pair steps of a machine, `left`, with another one, `right`."""

    def __init__(self, left, right):
        self.left = left
        self.right = right
        self.starts = begin_pairs(left, right)
        self.all_pairs = found_pairs(left, right, self.starts)
        self.steps = found_steps(left, right, self.all_pairs)
        self.onward = steps_by_source(self.steps)


def twins_of(machine, other):
    """The twins of a machine with another one, or with itself if the other one is None."""
    beside = machine if other is None else other
    if not same_alphabets(machine, beside):
        raise Mismatch()
    return Twins(machine, beside)


def useful_begins(machine):
    """The begins whose states are useful, in order."""
    useful = {state: True for state in useful_states(machine)}
    return [begin for begin in machine.begins if begin[0] in useful]


def useful_arcs(machine):
    """For each read letter and each useful source the list of the arcs to useful targets."""
    useful = {state: True for state in useful_states(machine)}
    table = {letter: {} for letter in machine.read}
    for arc in machine.arcs:
        if arc[0] in useful and arc[3] in useful:
            table[arc[1]].setdefault(arc[0], []).append(arc)
    return table


def begin_pairs(left, right):
    """The pairs of begins of the two machines with useful states."""
    mates = useful_begins(right)
    return [(begin, mate) for begin in useful_begins(left) for mate in mates]


def target_table(machine):
    """For each useful state and each read letter the useful states that arcs lead to, each once."""
    table = {}
    for letter, row in useful_arcs(machine).items():
        for state, arcs in row.items():
            table[(state, letter)] = sorted({arc[3] for arc in arcs})
    return table


def found_pairs(left, right, starts):
    """All twin pairs in ascending order, found from the pairs of begins."""
    targets = target_table(left)
    mates = target_table(right)
    found = {(begin[0], mate[0]): True for begin, mate in starts}
    waiting = list(found)
    while waiting:
        if len(found) > MAX_PAIRS:
            raise TooLarge("pairs", MAX_PAIRS)
        state, twin = waiting.pop()
        for letter in left.read:
            row = mates.get((twin, letter), [])
            for pair in [(target, mate) for target in targets.get((state, letter), []) for mate in row]:
                if pair not in found:
                    found[pair] = True
                    waiting.append(pair)
    return sorted(found)


def found_steps(left, right, pairs):
    """All pair steps in order."""
    arcs = useful_arcs(left)
    mates = useful_arcs(right)
    steps = []
    for pair in pairs:
        for letter in left.read:
            row = mates[letter].get(pair[1], [])
            for _, _, word, target in arcs[letter].get(pair[0], []):
                steps.extend([(pair, letter, (word, mate[2]), (target, mate[3])) for mate in row])
                if len(steps) > MAX_STEPS:
                    raise TooLarge("steps", MAX_STEPS)
    return sorted(steps, key=step_key)


def step_key(step):
    """What pair steps are compared by."""
    pair, letter, words, target = step
    return pair, letter, word_key(words[0]), word_key(words[1]), target


def steps_by_source(steps):
    """For each pair that steps leave the list of these steps in order."""
    table = {}
    for step in steps:
        table.setdefault(step[0], []).append(step)
    return table


def meeting_of(twins):
    """The meeting pairs in ascending order."""
    ends = {end[0]: True for end in twins.left.ends}
    mates = {end[0]: True for end in twins.right.ends}
    final = [pair for pair in twins.all_pairs if pair[0] in ends and pair[1] in mates]
    backward = edge_table([(step[3], step[0]) for step in twins.steps])
    return sorted(all_reached(final, backward))
