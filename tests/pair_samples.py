"""Plain reference answers about useful states, pairs of states, lags, growth and rests, straight from the points."""

import itertools
import os.path

from lagbound.machines import Machine
from machine_samples import strictly_in
from support import same, words_up_to


def least_key(word):
    return len(word), word


def useful(machine):
    """Point [26]: states that can be reached and from which an end can be reached, by closing a relation."""
    reach = {(state, state) for state in range(machine.size)} | {(arc[0], arc[3]) for arc in machine.arcs}
    for middle, first, last in itertools.product(range(machine.size), repeat=3):
        if (first, middle) in reach and (middle, last) in reach:
            reach.add((first, last))
    return [state for state in range(machine.size)
            if any((begin[0], state) in reach for begin in machine.begins)
            and any((state, end[0]) in reach for end in machine.ends)]


def written_by_state(machine, word, starts=None):
    """All pairs of a useful state and what a way to it writes that reads the word, as a set."""
    kept = set(useful(machine))
    rows = {(state, written) for state, written in (machine.begins if starts is None else starts) if state in kept}
    for letter in word:
        rows = {(arc[3], written + arc[2]) for state, written in rows for arc in machine.arcs
                if arc[0] == state and arc[1] == letter and arc[3] in kept}
    return rows


def told_set(machine, word):
    return {written + end[1] for state, written in written_by_state(machine, word)
            for end in machine.ends if end[0] == state}


def told_list(machine, word):
    return sorted(told_set(machine, word), key=least_key)


def last_states(machine, word, starts=None):
    return {state for state, _ in written_by_state(machine, word, starts)}


def lag(first, second):
    shared = len(os.path.commonprefix([first, second]))
    return first[shared:], second[shared:]


def entries_over(machine, other, word):
    """Point [34]."""
    return {(p, q, *lag(x, y)) for p, x in written_by_state(machine, word) for q, y in written_by_state(other, word)}


def entry_key(entry):
    return entry[0], entry[1], least_key(entry[2]), least_key(entry[3])


def sets_together(machine, other, first, second):
    """All pairs of sets of states that read words lead to from two sets of states."""
    kept = set(useful(machine)), set(useful(other))
    start = frozenset(first) & kept[0], frozenset(second) & kept[1]
    found, waiting = {start}, [start]
    while waiting:
        sets = waiting.pop()
        for letter in machine.read:
            after = tuple(frozenset(arc[3] for arc in told.arcs if arc[0] in states and arc[1] == letter) & known
                          for told, states, known in zip((machine, other), sets, kept))
            if after not in found:
                found.add(after)
                waiting.append(after)
    return found


def all_pairs(machine, other):
    """Point [32]."""
    sets = sets_together(machine, other, [begin[0] for begin in machine.begins], [begin[0] for begin in other.begins])
    return sorted({pair for first, second in sets for pair in itertools.product(first, second)})


def all_steps(machine, other, pairs):
    """Point [32]."""
    steps = {((arc[0], mate[0]), arc[1], (arc[2], mate[2]), (arc[3], mate[3]))
             for arc in machine.arcs for mate in other.arcs if arc[1] == mate[1]
             and (arc[0], mate[0]) in pairs and (arc[3], mate[3]) in pairs}
    return sorted(steps, key=lambda row: (row[0], row[1], least_key(row[2][0]), least_key(row[2][1]), row[3]))


def all_meeting(machine, other, pairs):
    """Point [33]."""
    ends, mates = {end[0] for end in machine.ends}, {end[0] for end in other.ends}
    return [(p, q) for p, q in pairs
            if any(first & ends and second & mates for first, second in sets_together(machine, other, [p], [q]))]


def first_clash(machine, other, most):
    """Point [35]: the least clash of at most `most` letters, or None."""
    for word in words_up_to(machine.read, most):
        first, second = told_set(machine, word), told_set(other, word)
        if any(left != right for left in first for right in second):
            return word
    return None


def really_one_lag(machine, other, pairs, steps, table):
    """Point [36]; pairs are the meeting pairs."""
    if type(table) is not list or not all(type(row) is tuple and len(row) == 4 for row in table):
        return False
    if not same([row[:2] for row in table], pairs) or not all(type(word) is str for row in table for word in row[2:]):
        return False
    if any(set(word) - set(machine.write) for row in table for word in row[2:]) or any(row[2] and row[3] for row in table):
        return False
    lags = {row[:2]: row[2:] for row in table}
    begins = all(lags.get((p, q), lag(v, w)) == lag(v, w) for p, v in machine.begins for q, w in other.begins)
    moves = all(lags[step[3]] == lag(lags[step[0]][0] + step[2][0], lags[step[0]][1] + step[2][1]) for step in steps
                if step[0] in lags and step[3] in lags)
    ends = all(lags.get((p, q), ("", ""))[0] + d == lags[p, q][1] + e for p, d in machine.ends for q, e in other.ends
               if (p, q) in lags)
    return begins and moves and ends


def machine_lags(machine):
    """All lag entries of the machine with itself, or None if there are infinitely many.

    By point [41] a side that is longer than the bound shows that there are; the longest are looked at first.
    """
    pairs = all_pairs(machine, machine)
    begins = [word for state, word in machine.begins if state in useful(machine)]
    arcs = [arc for arc in machine.arcs if arc[0] in useful(machine) and arc[3] in useful(machine)]
    bound = bound_of(machine, pairs)
    steps = all_steps(machine, machine, pairs)
    found = {entry for entry in entries_over(machine, machine, "")}
    waiting = sorted(found, key=lambda entry: len(entry[2]) + len(entry[3]))
    assert begins or not waiting
    assert arcs or not steps
    while waiting:
        p, q, x, y = waiting.pop()
        if max(len(x), len(y)) > bound:
            return None
        for step in steps:
            entry = (*step[3], *lag(x + step[2][0], y + step[2][1]))
            if step[0] == (p, q) and entry not in found:
                found.add(entry)
                waiting.append(entry)
    return sorted(found, key=entry_key)


def bound_of(machine, pairs):
    """Point [41]."""
    kept = useful(machine)
    begins = [len(word) for state, word in machine.begins if state in kept]
    arcs = [len(arc[2]) for arc in machine.arcs if arc[0] in kept and arc[3] in kept]
    return max(begins) + (len(pairs) - 1) * max(arcs, default=0) if pairs else 0


def really_growth(machine, paper):
    """Point [39]."""
    if type(paper) is not tuple or len(paper) != 3 or type(paper[2]) is not int:
        return False
    texts = []
    for way in paper[:2]:
        if type(way) is not tuple or len(way) != 2 or not strictly_in(way[0], machine.begins) or type(way[1]) is not list:
            return False
        if not all(strictly_in(arc, machine.arcs) for arc in way[1]):
            return False
        states = [way[0][0]] + [arc[3] for arc in way[1]]
        if any(arc[0] != state for arc, state in zip(way[1], states)) or states[-1] not in useful(machine):
            return False
        if not 0 <= paper[2] < len(way[1]) or states[paper[2]] != states[-1]:
            return False
        texts.append([way[0][1] + "".join(arc[2] for arc in way[1][:at]) for at in (paper[2], len(way[1]))])
    if [arc[1] for arc in paper[0][1]] != [arc[1] for arc in paper[1][1]]:
        return False
    return lag(texts[0][0], texts[1][0]) != lag(texts[0][1], texts[1][1])


def really_lag_table(machine, pairs, table):
    """Point [43]."""
    if type(table) is not list or not all(type(row) is tuple and len(row) == 4 for row in table):
        return False
    for row in table:
        if not all(type(state) is int for state in row[:2]) or not all(type(word) is str for word in row[2:]):
            return False
        if any(set(word) - set(machine.write) for word in row[2:]) or row[:2] not in pairs or row[2][:1] == row[3][:1] != "":
            return False
    if [entry_key(row) for row in table] != sorted({entry_key(row) for row in table}):
        return False
    steps = all_steps(machine, machine, pairs)
    begins = entries_over(machine, machine, "")
    moved = {(*step[3], *lag(row[2] + step[2][0], row[3] + step[2][1]))
             for row in table for step in steps if step[0] == row[:2]}
    return begins <= set(table) and moved <= set(table)


def least_ending(machine, state, most=8):
    """Point [44]: the least word that arcs from the state to one with an end can read."""
    ends = {end[0] for end in machine.ends}
    return next(word for word in words_up_to(machine.read, most) if last_states(machine, word, [(state, "")]) & ends)


def row_over(machine, word):
    """Point [50]: the row of rests after the read word."""
    pairs = written_by_state(machine, word)
    shared = len(os.path.commonprefix([written for _, written in pairs]))
    return sorted((state, written[shared:]) for state, written in pairs)


def rows_by_finding(machine):
    """Point [50]: the rows of rests, and for each one the least word that leads to it."""
    rows, words = [row_over(machine, "")], [""]
    for word in words:
        for letter in machine.read:
            row = row_over(machine, word + letter)
            if row and row not in rows:
                rows.append(row)
                words.append(word + letter)
    return rows, words


def really_rests(machine, reader, table):
    """Point [52]."""
    if (machine.read, machine.write) != (reader.read, reader.write) or type(table) is not list:
        return False
    kept = useful(machine)
    if len(table) != len(reader.moves):
        return False
    for row in table:
        if type(row) is not list or not all(type(pair) is tuple and len(pair) == 2 for pair in row):
            return False
        if not all(type(state) is int and state in kept and type(rest) is str for state, rest in row):
            return False
        if any(set(rest) - set(machine.write) for _, rest in row):
            return False
        if [state for state, _ in row] != sorted({state for state, _ in row}):
            return False
    if {(p, reader.first + r) for p, r in table[0]} != {begin for begin in machine.begins if begin[0] in kept}:
        return False
    for k, row in enumerate(table):
        for letter, move in zip(reader.read, reader.moves[k]):
            left = {(arc[3], r + arc[2]) for p, r in row for arc in machine.arcs
                    if arc[:2] == (p, letter) and arc[3] in kept}
            if left != (set() if move is None else {(q, move[0] + s) for q, s in table[move[1]]}):
                return False
        told = {r + e for p, r in row for q, e in machine.ends if p == q}
        if told != (set() if reader.finals[k] is None else {reader.finals[k]}):
            return False
    return True


def pair_machine(source, read="ab", write="xy", most=3, arcs=2, words=("", "", "x", "y", "xy", "xx")):
    """A random machine in which most states are useful and many words are taken."""
    size = source.randint(1, most)
    state = lambda: source.randrange(size)
    return Machine(
        read, write, size,
        begins=[(state(), source.choice(words)) for _ in range(source.choice((0, 1, 1, 1, 2)))],
        arcs=[(state(), source.choice(read), source.choice(words), state()) for _ in range(source.randint(0, arcs * size))],
        ends=[(state(), source.choice(words)) for _ in range(source.choice((1, 1, 2)))],
    )


def lockstep_machine(source, read="ab", write="xy", most=4):
    """A random machine whose courses over one word mostly tell the same, with lags between them.

    Each state has a word that a way to it holds back, so that what is written fits.
    """
    size = source.randint(2, most)
    held = ["".join(source.choice(write[:1] if source.random() < 0.5 else write) for _ in range(source.randint(0, 2)))
            for _ in range(size)]
    sign = {letter: source.choice(write) for letter in read}
    arcs = []
    for _ in range(source.randint(1, 3 * size)):
        source_state, letter, target = source.randrange(size), source.choice(read), source.randrange(size)
        whole = held[source_state] + sign[letter]
        if whole.endswith(held[target]):
            arcs.append((source_state, letter, whole[:len(whole) - len(held[target])], target))
    begins = [(state, "") for state in range(size) if held[state] == ""] or [(0, "x")]
    ends = [(state, held[state]) for state in range(size) if source.random() < 0.7]
    return Machine(read, write, size, begins=begins[:source.randint(1, 3)], arcs=arcs, ends=ends)


def forked_machine(source, write="xy", most=2):
    """A random machine of two branches: one takes words that end with a, the other words that end with b.

    Each branch has one course for each word, so the machine tells one word; its lags mostly grow.
    """
    begins, arcs, ends, size = [], [], [], 0
    for last in "ab":
        many = source.randint(1, most)
        words = lambda: source.choice(("", "x", "x", write[-1], "xx"))
        begins.append((size, words()))
        for state in range(many):
            for letter in source.choice(("a", "b", "ab", "ab")):
                arcs.append((size + state, letter, words(), size + source.randrange(many)))
            if source.random() < 0.8:
                arcs.append((size + state, last, words(), size + many))
        ends.append((size + many, words()))
        size += many + 1
    return Machine("ab", write, size, begins=begins, arcs=arcs, ends=ends)


def parts(machine):
    """All that the properties of a machine tell."""
    return machine.read, machine.write, machine.size, machine.begins, machine.arcs, machine.ends


def numbered(read, write, begins, arcs, ends):
    """Point [29]: the parts of a machine whose entries are told with pairs for states, found pairs alone."""
    found = sorted({begin[0] for begin in begins})
    for pair in found:
        for letter in read:
            targets = {arc[3] for arc in arcs if arc[0] == pair and arc[1] == letter}
            found.extend(sorted(targets - set(found)))
    place = {pair: number for number, pair in enumerate(found)}
    pairs = [sorted({(place[pair], word) for pair, word in rows if pair in place}, key=lambda row: (row[0], least_key(row[1])))
             for rows in (begins, ends)]
    kept = {(place[pair], letter, word, place[target]) for pair, letter, word, target in arcs if pair in place}
    kept = sorted(kept, key=lambda row: (row[0], row[1], least_key(row[2]), row[3]))
    return read, write, len(found), pairs[0], kept, pairs[1]


def levels_machine(source, most=4):
    """A random machine that goes down some levels, where its ways write unlike words, to loops at the lowest one."""
    depth = source.randint(1, most)
    words = ("", "x", "y", "xy", "yx", "xx")
    arcs = [(level, "a", source.choice(words), level + 1) for level in range(depth) for _ in range(source.randint(1, 3))]
    arcs += [(depth, letter, source.choice(words), depth) for letter in source.choice(("a", "a", "ab", ""))]
    begins = [(0, source.choice(("", "x", "y"))) for _ in range(source.choice((1, 1, 2)))]
    return Machine("ab", "xy", depth + 1, begins=begins, arcs=arcs, ends=[(depth, "")])
