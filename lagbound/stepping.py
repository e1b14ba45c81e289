"""Tables of the entries of a machine for going over read words, from either side."""


def arcs_by_letter(machine):
    """For each read letter and each source of an arc that reads it the list of these arcs in order."""
    table = {letter: {} for letter in machine.read}
    for arc in machine.arcs:
        table[arc[1]].setdefault(arc[0], []).append(arc)
    return table


def pairs_by_state(pairs):
    """For each state of a begin or an end the list of its begins or ends in order."""
    table = {}
    for pair in pairs:
        table.setdefault(pair[0], []).append(pair)
    return table


def labels_over(machine, word):
    """For each position of the word, the end included, the states that can read the rest and then end."""
    arcs = arcs_by_letter(machine)
    label = {pair[0]: True for pair in machine.ends}
    backwards = [label]
    for letter in reversed(word):
        label = {state: True for state, row in arcs[letter].items() if leads_into(row, label)}
        backwards.append(label)
    return backwards[::-1]


def leads_into(arcs, states):
    """Whether one of the arcs leads to one of the states."""
    return any(arc[3] in states for arc in arcs)
