"""Twin pairs, meeting pairs, pair steps and lags of a machine with another one, or with itself."""

from lagbound.errors import Mismatch, TooLarge
from lagbound.lags import begin_entry, entry_key, moved_entry
from lagbound.limits import MAX_LAGS
from lagbound.machines import same_alphabets
from lagbound.twins import begin_pairs, meeting_of, twins_of, useful_arcs
from lagbound.words import check_word


def twin_pairs(machine, *, other=None):
    """All twin pairs in ascending order."""
    return list(twins_of(machine, other).all_pairs)


def meeting_pairs(machine, *, other=None):
    """The twin pairs that can end over a common word, in ascending order."""
    return meeting_of(twins_of(machine, other))


def pair_steps(machine, *, other=None):
    """All pair steps in order."""
    return list(twins_of(machine, other).steps)


def lags_after(machine, word, *, other=None):
    """The lag entries over the read word, in order."""
    check_word(machine.read, word)
    beside = machine if other is None else other
    if not same_alphabets(machine, beside):
        raise Mismatch()
    arcs = useful_arcs(machine)
    mates = useful_arcs(beside)
    entries = {}
    for begin, mate in begin_pairs(machine, beside):
        entries[begin_entry(begin, mate)] = True
        check_lags(entries)
    for letter in word:
        entries = entries_on(entries, arcs[letter], mates[letter])
    return sorted(entries, key=entry_key)


def entries_on(entries, arcs, mates):
    """The lag entries after one more letter, which the arcs of both machines read."""
    longer = {}
    for entry in entries:
        row = mates.get(entry[1], [])
        for _, _, written, target in arcs.get(entry[0], []):
            for mate in row:
                longer[moved_entry(entry, (written, mate[2]), (target, mate[3]))] = True
        check_lags(longer)
    return longer


def check_lags(entries):
    """Nothing, if there may be so many lag entries."""
    if len(entries) > MAX_LAGS:
        raise TooLarge("lags", MAX_LAGS)
