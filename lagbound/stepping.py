"""Tables of the entries of a machine for going over read words, from either side."""


def arcs_by_letter(machine):
    """For each read letter and each source of an arc that reads it the list of these arcs in order."""
    table = {letter: {} for letter in machine.read}
    for arc in machine.arcs:
        table[arc[1]].setdefault(arc[0], []).append(arc)
    return table


def entries_by_state(entries):
    """For each state of begins or ends, or source of arcs, the list of these entries in order."""
    table = {}
    for entry in entries:
        table.setdefault(entry[0], []).append(entry)
    return table


def labels_over(machine, word):
    """For each position of the word, the end included, the states that can read the rest and then end."""
    return labels_before(arcs_by_letter(machine), [pair[0] for pair in machine.ends], word)


def labels_before(arcs, states, word):
    """For each position of the word, the end included, the states that can read the rest and come to one of those."""
    label = {state: True for state in states}
    backwards = [label]
    for letter in reversed(word):
        label = {state: True for state, row in arcs[letter].items() if leads_into(row, label)}
        backwards.append(label)
    return backwards[::-1]


def leads_into(arcs, states):
    """Whether one of the arcs leads to one of the states."""
    return any(arc[3] in states for arc in arcs)


def least_endings(arcs, ends):
    """For each state that can end the least read word over which it does, and what is written over this word."""
    endings = {state: ("", written) for state, written in reversed(ends)}
    grown = True
    while grown:
        # All endings that a round finds have the same length, so that they are compared by their letters.
        fresh = {}
        for source, letter, written, target in arcs:
            if source not in endings and target in endings:
                word, rest = endings[target]
                ending = (letter + word, written + rest)
                fresh[source] = min(ending, fresh.get(source, ending))
        for state, ending in fresh.items():
            endings[state] = ending
        grown = len(fresh) > 0
    return endings
