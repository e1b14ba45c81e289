"""Least acceptors and pairs of states, as tables of moves.

A table of moves has a row for each state, and a row has the next state for
each letter. The operators of acceptors run these functions.
"""

from lagbound.errors import TooLarge
from lagbound.limits import MAX_ACCEPTOR


def alike_groups(moves, ends):
    """For each state a number: two states have the same one exactly if they accept the same words."""
    final = {end: True for end in ends}
    groups = [1 if state in final else 0 for state in range(len(moves))]
    count = 0
    while True:
        numbers = {}
        finer = []
        for state, row in enumerate(moves):
            mark = (groups[state], tuple([groups[target] for target in row]))
            if mark not in numbers:
                numbers[mark] = len(numbers)
            finer.append(numbers[mark])
        # A round that splits no group ends it: then no later round can.
        if len(numbers) == count:
            return groups
        groups = finer
        count = len(numbers)


def least_tables(moves, ends):
    """The moves and the ends of the least acceptor of the same words, numbered by finding."""
    groups = alike_groups(moves, ends)
    final = {end: True for end in ends}
    numbers = {groups[0]: 0}
    members = [0]
    rows = []
    while len(rows) < len(members):
        state = members[len(rows)]
        row = []
        for target in moves[state]:
            group = groups[target]
            if group not in numbers:
                numbers[group] = len(members)
                members.append(target)
            row.append(numbers[group])
        rows.append(row)
    return rows, [number for number, state in enumerate(members) if state in final]


def pair_tables(first, second):
    """The moves between the found pairs of states of two tables, and the pairs by number."""
    numbers = {(0, 0): 0}
    pairs = [(0, 0)]
    rows = []
    while len(rows) < len(pairs):
        left, right = pairs[len(rows)]
        row = []
        for pair in zip(first[left], second[right]):
            if pair not in numbers:
                numbers[pair] = len(pairs)
                pairs.append(pair)
            row.append(numbers[pair])
        if len(pairs) > MAX_ACCEPTOR:
            raise TooLarge("states", MAX_ACCEPTOR)
        rows.append(row)
    return rows, pairs
