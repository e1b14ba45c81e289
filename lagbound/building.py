"""What machines that are built from others have in common: their limits and the numbers of their states."""

from lagbound.errors import TooLarge
from lagbound.limits import MAX_ENTRIES, MAX_STATES, MAX_WRITTEN
from lagbound.machines import Machine


def built_machine(read, write, size, begins, arcs, ends):
    """The machine of these parts, in which entries may be equal, if it keeps the limits of results."""
    check_states(size)
    kept_begins = different("begins", begins)
    kept_arcs = different("arcs", arcs)
    kept_ends = different("ends", ends)
    check_written([pair[1] for pair in kept_begins + kept_ends] + [arc[2] for arc in kept_arcs])
    return Machine(read, write, size, begins=kept_begins, arcs=kept_arcs, ends=kept_ends)


def check_states(count):
    """Nothing, if a machine or a reader may have so many states."""
    if count > MAX_STATES:
        raise TooLarge("states", MAX_STATES)


def check_written(words):
    """Nothing, if each of the words may be written in a machine or a reader."""
    if any(len(word) > MAX_WRITTEN for word in words):
        raise TooLarge("written", MAX_WRITTEN)


def check_entries(what, entries):
    """Nothing, if a machine may have so many different entries of this kind."""
    if len(entries) > MAX_ENTRIES:
        raise TooLarge(what, MAX_ENTRIES)


def different(what, entries):
    """The entries, each once, if they are not too many."""
    kept = list({entry: True for entry in entries})
    check_entries(what, kept)
    return kept


def numbered_pairs(starts, letters, targets_of):
    """The pairs that are found from the starts, each with its number as a state.

    `targets_of` gives the pairs that arcs with a letter lead to from a pair.
    """
    pairs = sorted(set(starts))
    numbers = {pair: number for number, pair in enumerate(pairs)}
    at = 0
    while at < len(pairs):
        check_states(len(pairs))
        source = pairs[at]
        for letter in letters:
            targets = sorted(set(targets_of(source, letter)))
            for pair in targets:
                if pair not in numbers:
                    numbers[pair] = len(pairs)
                    pairs.append(pair)
        at += 1
    return numbers
