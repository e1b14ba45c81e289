"""Whether the lags of a machine grow, and what bounds them if they do not."""

from lagbound.checks import check_number
from lagbound.courses import is_way, last_state, read_of, told_of
from lagbound.errors import Growing, TooLarge, TwoWords
from lagbound.lags import begin_entry, entry_key, is_table, moved_entry
from lagbound.limits import MAX_LAGS, MAX_TIMES
from lagbound.loops import growing_paper
from lagbound.onlyone import two_words_of
from lagbound.plain import in_range
from lagbound.shaping import useful_states
from lagbound.stepping import least_endings
from lagbound.twins import twins_of, useful_arcs, useful_begins
from lagbound.words import lag_of


def growth(machine):
    """A right growth paper, or None if the machine is steady."""
    return growing_paper(twins_of(machine, None))


def steady(machine):
    """Whether the machine does not grow."""
    return growth(machine) is None


def is_growth(machine, paper):
    """Whether the paper shows two ways whose common loop changes their lag."""
    if not isinstance(paper, tuple) or len(paper) != 3:
        return False
    first, second, at = paper
    if not is_way(machine, first) or not is_way(machine, second) or read_of(first) != read_of(second):
        return False
    useful = useful_states(machine)
    if last_state(first) not in useful or last_state(second) not in useful:
        return False
    if not in_range(at, 0, len(first[1]) - 1):
        return False
    if state_at(first, at) != last_state(first) or state_at(second, at) != last_state(second):
        return False
    return pumped_lag(paper, 0) != pumped_lag(paper, 1)


def state_at(way, at):
    """The state of a way after its first `at` arcs."""
    return last_state((way[0], way[1][:at]))


def lag_bound(machine):
    """A number of letters that no side of a lag entry exceeds if the machine is steady."""
    count = len(twins_of(machine, None).all_pairs)
    if count == 0:
        return 0
    longest_begin = max([len(begin[1]) for begin in useful_begins(machine)])
    rows = [row for table in useful_arcs(machine).values() for row in table.values()]
    longest_arc = max([len(arc[2]) for row in rows for arc in row], default=0)
    return longest_begin + (count - 1) * longest_arc


def lag_table(machine):
    """The list of all lag entries of the machine with itself."""
    twins = twins_of(machine, None)
    paper = growing_paper(twins)
    if paper is not None:
        raise Growing(paper)
    reached = {}
    for begin, mate in twins.starts:
        reached[begin_entry(begin, mate)] = True
    waiting = list(reached)
    while waiting:
        if len(reached) > MAX_LAGS:
            raise TooLarge("lags", MAX_LAGS)
        entry = waiting.pop()
        for after in entries_after(twins, entry):
            if after not in reached:
                reached[after] = True
                waiting.append(after)
    return sorted(reached, key=entry_key)


def entries_after(twins, entry):
    """The lag entries that steps lead to from a lag entry."""
    return [moved_entry(entry, words, target) for _, _, words, target in twins.onward.get(entry[:2], [])]


def is_lag_table(machine, table):
    """Whether the table is a list of lag entries in order, and closed for the machine."""
    twins = twins_of(machine, None)
    if not is_table(table, machine.write):
        return False
    pairs = {pair: True for pair in twins.all_pairs}
    for entry in table:
        if entry[:2] not in pairs or lag_of(entry[2], entry[3]) != entry[2:]:
            return False
    known = {entry: True for entry in table}
    if not all([begin_entry(begin, mate) in known for begin, mate in twins.starts]):
        return False
    return all([after in known for entry in table for after in entries_after(twins, entry)])


def pumped_lag(paper, times):
    """The lag of what the two ways write when their loop is gone round so many times."""
    check_number(times, 0, MAX_TIMES)
    first, second, at = paper
    return lag_of(told_of(pumped(first, at, times)), told_of(pumped(second, at, times)))


def pumped(way, at, times):
    """The way with the loop behind its first `at` arcs gone round so many times."""
    return way[0], way[1][:at] + way[1][at:] * times


def spread(machine, paper, times):
    """Two read words that the loop makes almost alike, each before its told word."""
    check_number(times, 0, MAX_TIMES)
    two = two_words_of(twins_of(machine, None))
    if two is not None:
        raise TwoWords(two)
    first, second, at = paper
    endings = least_endings(machine.arcs, machine.ends)
    word1, told1 = completed(pumped(first, at, times), endings)
    word2, told2 = completed(pumped(second, at, times), endings)
    return word1, told1, word2, told2


def completed(way, endings):
    """What the way with its least ending reads, and what it tells."""
    word, written = endings[last_state(way)]
    return read_of(way) + word, told_of(way) + written
