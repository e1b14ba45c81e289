"""Letting one machine read what another one writes."""

from lagbound.building import built_machine, check_entries, numbered_pairs
from lagbound.errors import Mismatch
from lagbound.stepping import arcs_by_letter, entries_by_state, labels_before
from lagbound.words import common


class Runs:
    """The runs of a machine over words that another machine writes."""

    def __init__(self, machine):
        self.table = arcs_by_letter(machine)
        self.states = list(range(machine.size))
        self.known = {}

    def targets(self, state, word):
        """The states that runs over the word come to from the state."""
        if word not in self.known:
            self.known[word] = self.reached(word)
        return self.known[word][state]

    def reached(self, word):
        """For each state the states that runs over the word come to from there."""
        # Bit k of a number stands for state k. The runs from all states are followed at once, from behind.
        bits = [1 << state for state in self.states]
        for letter in reversed(word):
            row = self.table[letter]
            bits = [joined_bits(row.get(state, []), bits) for state in self.states]
        return [[target for target in self.states if (number >> target) & 1] for number in bits]

    def texts_over(self, starts, word, last, what):
        """For each state that runs over the word come to the different words written there.

        `starts` has for each first state the words that are written before. Only last states in `last` count. More
        words than a machine may have entries of the kind `what` raise its error at once: runs are not counted by the
        end of the word alone, because there may be too many on the way.
        """
        live = labels_before(self.table, last, word)
        # What all words begin with is moved to the front, which keeps them short.
        front = []
        kept = {state: words for state, words in starts.items() if state in live[0]}
        for at, letter in enumerate(word):
            fresh = self.written_on(kept, letter, live[at + 1], what)
            shared = common([text for words in fresh.values() for text in words]) or ""
            front.append(shared)
            kept = {state: [text[len(shared):] for text in words] for state, words in fresh.items()}
        head = "".join(front)
        return {state: [head + text for text in words] for state, words in kept.items()}

    def written_on(self, kept, letter, live, what):
        """For each live state the different words written there after one more letter."""
        fresh = {}
        for state, words in kept.items():
            for _, _, more, target in self.table[letter].get(state, []):
                if target in live:
                    texts = fresh.setdefault(target, {})
                    for text in words:
                        texts[text + more] = True
                    # From a live state each of the words has the same ways on, so all of them stay different.
                    check_entries(what, texts)
        return fresh


def joined_bits(arcs, bits):
    """The number with the bits of all targets of the arcs."""
    number = 0
    for arc in arcs:
        number = number | bits[arc[3]]
    return number


def behind(first, second):
    """The machine that reads what the first one reads, and writes what the second one writes behind it."""
    if first.write != second.read:
        raise Mismatch()
    runs = Runs(second)
    numbers = found_pairs(first, second, runs)
    begins = begins_behind(first, second, runs, numbers)
    arcs = arcs_behind(first, runs, numbers)
    ends = ends_behind(first, second, runs, numbers)
    return built_machine(first.read, second.write, len(numbers), begins, arcs, ends)


def found_pairs(first, second, runs):
    """The pairs of states that are found from the begins, each with its number."""
    table = arcs_by_letter(first)
    starts = []
    for state, word in first.begins:
        for begin in second.begins:
            starts.extend([(state, after) for after in runs.targets(begin[0], word)])

    def targets_of(pair, letter):
        """The pairs that arcs with the letter lead to."""
        arcs = table[letter].get(pair[0], [])
        return [(arc[3], after) for arc in arcs for after in runs.targets(pair[1], arc[2])]

    return numbered_pairs(starts, first.read, targets_of)


def held_states(numbers):
    """For each first item of a pair the list of the second items and the numbers of the pairs."""
    table = {}
    for (state, held), number in numbers.items():
        table.setdefault(state, []).append((held, number))
    return table


def begins_behind(first, second, runs, numbers):
    """The begins of `behind`."""
    starts = {state: [pair[1] for pair in pairs] for state, pairs in entries_by_state(second.begins).items()}
    entries = {}
    for state, word in first.begins:
        for after, texts in runs.texts_over(starts, word, runs.states, "begins").items():
            for text in texts:
                entries[(numbers[(state, after)], text)] = True
            check_entries("begins", entries)
    return entries


def arcs_behind(first, runs, numbers):
    """The arcs of `behind`."""
    table = held_states(numbers)
    entries = {}
    for source, letter, word, target in first.arcs:
        for held, number in table.get(source, []):
            for after, texts in runs.texts_over({held: [""]}, word, runs.states, "arcs").items():
                for text in texts:
                    entries[(number, letter, text, numbers[(target, after)])] = True
                check_entries("arcs", entries)
    return entries


def ends_behind(first, second, runs, numbers):
    """The ends of `behind`."""
    table = held_states(numbers)
    final = entries_by_state(second.ends)
    entries = {}
    for state, word in first.ends:
        for held, number in table.get(state, []):
            for after, texts in runs.texts_over({held: [""]}, word, list(final), "ends").items():
                for text in texts:
                    for end in final[after]:
                        entries[(number, text + end[1])] = True
                    check_entries("ends", entries)
    return entries
