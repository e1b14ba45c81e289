"""Lag entries: two states, and the lag of what ways to them write over one read word."""

from lagbound.plain import is_whole
from lagbound.words import is_word, lag_of, move_lag, word_key


def entry_key(entry):
    """What lag entries are compared by."""
    state, mate, first, second = entry
    return state, mate, word_key(first), word_key(second)


def is_entry(value, letters):
    """Whether the value has the form of a lag entry with words over the alphabet; the states may be any integers."""
    if not isinstance(value, tuple) or len(value) != 4:
        return False
    state, mate, first, second = value
    return is_whole(state) and is_whole(mate) and is_word(letters, first) and is_word(letters, second)


def is_table(value, letters):
    """Whether the value is a list of lag entries in order, each once."""
    if not isinstance(value, list) or not all(is_entry(entry, letters) for entry in value):
        return False
    keys = [entry_key(entry) for entry in value]
    return all([low < high for low, high in zip(keys, keys[1:])])


def begin_entry(begin, mate):
    """The lag entry of two begins."""
    first, second = lag_of(begin[1], mate[1])
    return begin[0], mate[0], first, second


def moved_entry(entry, words, target):
    """The lag entry after a step that writes the words and leads to the target."""
    first, second = move_lag((entry[2], entry[3]), words[0], words[1])
    return target[0], target[1], first, second
