"""Whether a machine tells one word for each read word, alone or beside another machine."""

from lagbound.lags import is_table
from lagbound.machines import same_alphabets
from lagbound.stepping import entries_by_state
from lagbound.telling import is_told, least_words
from lagbound.twins import Twins, meeting_of, twins_of
from lagbound.words import is_word, lag_of, move_lag, word_key
from lagbound.wordsets import spelled


def clash(machine, *, other=None):
    """The least clash, or None."""
    return searched(twins_of(machine, other))[0]


def clash_bound(machine, *, other=None):
    """A number of letters that no least clash exceeds."""
    count = len(meeting_of(twins_of(machine, other)))
    return 2 * count - 1 if count > 0 else 0


def one_lag_table(machine, *, other=None):
    """The right one-lag table, or None if there is a clash."""
    word, kept = searched(twins_of(machine, other))
    if word is not None:
        return None
    return [(state, mate, lags[0][0], lags[0][1]) for (state, mate), lags in sorted(kept.items())]


def is_one_lag(machine, table, *, other=None):
    """Whether the table is the right one-lag table."""
    beside = machine if other is None else other
    if not same_alphabets(machine, beside):
        return False
    twins = Twins(machine, beside)
    if not is_table(table, machine.write) or [entry[:2] for entry in table] != meeting_of(twins):
        return False
    lags = {(state, mate): (first, second) for state, mate, first, second in table}
    if not all([first == "" or second == "" for first, second in lags.values()]):
        return False
    return begins_agree(twins, lags) and steps_agree(twins, lags) and ends_agree(twins, lags)


def begins_agree(twins, lags):
    """Whether each meeting pair has the lag of its begins."""
    for begin, mate in twins.starts:
        pair = (begin[0], mate[0])
        if pair in lags and lags[pair] != lag_of(begin[1], mate[1]):
            return False
    return True


def steps_agree(twins, lags):
    """Whether each step between meeting pairs leads from the lag of the one to the lag of the other."""
    for source, _, words, target in twins.steps:
        if source in lags and target in lags and lags[target] != move_lag(lags[source], words[0], words[1]):
            return False
    return True


def ends_agree(twins, lags):
    """Whether at each meeting pair all ends make one told word of the lag."""
    tails = end_words(twins)
    return all([one_told(lag, tails.get(pair)) for pair, lag in lags.items()])


def end_words(twins):
    """For each pair of states that both have ends the pair of the lists of the words of these ends."""
    ends = entries_by_state(twins.left.ends)
    mates = entries_by_state(twins.right.ends)
    tails = {}
    for state, mate in twins.all_pairs:
        if state in ends and mate in mates:
            tails[(state, mate)] = ([end[1] for end in ends[state]], [end[1] for end in mates[mate]])
    return tails


def one_told(lag, tails):
    """Whether one word alone is told with the lag and these words of ends; None stands for no ends."""
    if tails is None:
        return True
    told = {lag[0] + word: True for word in tails[0]}
    for word in tails[1]:
        told[lag[1] + word] = True
    return len(told) == 1


def searched(twins):
    """The least clash or None, and for each meeting pair the list of the lags that were kept until it was found.

    The read words are gone through in the word order. At most two lags are kept for each pair: two different ones
    show a clash for each word that both states can end over, so a third one shows nothing more.
    """
    steps = steps_by_letter(twins)
    tails = end_words(twins)
    kept = {pair: [] for pair in meeting_of(twins)}
    starts = [((begin[0], mate[0]), lag_of(begin[1], mate[1])) for begin, mate in twins.starts]
    # A group holds the pairs and lags that were kept for one read word; its origin tells the word.
    groups = [newly_kept(kept, starts)]
    origins = [(0, "")]
    at = 0
    while at < len(groups):
        group = groups[at]
        if not all([one_told(lag, tails.get(pair)) for pair, lag in group]):
            return spelled(origins, at), kept
        for letter in twins.left.read:
            longer = newly_kept(kept, moved_group(group, steps, letter))
            if longer:
                groups.append(longer)
                origins.append((at, letter))
        at += 1
    return None, kept


def steps_by_letter(twins):
    """For each twin pair and each read letter the list of the steps."""
    table = {}
    for step in twins.steps:
        table.setdefault((step[0], step[1]), []).append(step)
    return table


def moved_group(group, steps, letter):
    """The pairs and lags that steps with the letter lead to from those of the group."""
    moved = []
    for pair, lag in group:
        for _, _, words, target in steps.get((pair, letter), []):
            moved.append((target, move_lag(lag, words[0], words[1])))
    return moved


def newly_kept(kept, reached):
    """Those of the reached pairs and lags that are new and kept; they are added to what is kept.

    Pairs that do not meet are no keys of what is kept.
    """
    fresh = []
    for pair, whole in reached:
        lag = cut_short(whole)
        if pair in kept and len(kept[pair]) < 2 and lag not in kept[pair]:
            kept[pair].append(lag)
            fresh.append((pair, lag))
    return fresh


def cut_short(lag):
    """The lag, without what stands behind the first letters if these differ: that never counts any more."""
    if lag[0] and lag[1]:
        return lag[0][0], lag[1][0]
    return lag


def two_words(machine):
    """The least clash and its two least told words, or None if the machine tells one word."""
    return two_words_of(twins_of(machine, None))


def two_words_of(twins):
    """The paper of `two_words` for a machine beside itself."""
    word = searched(twins)[0]
    if word is None:
        return None
    first, second = least_words(twins.left, word, 2)
    return word, first, second


def tells_one(machine):
    """Whether the machine tells one word."""
    return two_words(machine) is None


def is_two_words(machine, paper):
    """Whether the paper shows a read word with two told words, in their order."""
    if not isinstance(paper, tuple) or len(paper) != 3:
        return False
    word, first, second = paper
    if not is_word(machine.read, word) or not is_word(machine.write, first) or not is_word(machine.write, second):
        return False
    if word_key(first) >= word_key(second):
        return False
    return is_told(machine, word, first) and is_told(machine, word, second)
