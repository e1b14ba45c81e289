"""Whether two machines, or two readers, tell the same."""

from lagbound.errors import Mismatch, TwoWords
from lagbound.machines import same_alphabets
from lagbound.onlyone import clash, is_one_lag, one_lag_table, two_words
from lagbound.partings import Partings
from lagbound.projections import taken
from lagbound.readers import told_by
from lagbound.tails import joint_tails
from lagbound.telling import least_words
from lagbound.twins import twins_of
from lagbound.words import first_word, is_word
from lagbound.wordsets import differ


def parting(first, second):
    """The parting paper with the least word, or None if the machines, which tell one word each, are alike."""
    if not same_alphabets(first, second):
        raise Mismatch()
    check_one(first)
    check_one(second)
    words = [clash(first, other=second), differ(taken(first), taken(second))]
    word = first_word([word for word in words if word is not None])
    if word is None:
        return None
    return word, only_told(first, word), only_told(second, word)


def check_one(machine):
    """Nothing, if the machine tells one word."""
    paper = two_words(machine)
    if paper is not None:
        raise TwoWords(paper)


def only_told(machine, word):
    """The told word for a read word of any length, or None, for a machine that tells one word."""
    words = least_words(machine, word, 1)
    return words[0] if words else None


def alike(first, second):
    """Whether two machines that tell one word each have the same told words."""
    return parting(first, second) is None


def is_parting(first, second, paper):
    """Whether the paper is a right parting paper of the two machines."""
    if not same_alphabets(first, second) or not isinstance(paper, tuple) or len(paper) != 3:
        return False
    word, told_first, told_second = paper
    if not is_word(first.read, word):
        return False
    if not is_all_told(first, word, told_first) or not is_all_told(second, word, told_second):
        return False
    return told_first != told_second


def is_all_told(machine, word, told):
    """Whether told is the only told word for the read word, or None if there is none."""
    words = least_words(machine, word, 2)
    return words == ([] if told is None else [told])


def alike_table(first, second):
    """The one-lag table of the two machines if they take the same words, or None if there is none."""
    table = one_lag_table(first, other=second)
    same = take_the_same(first, second)
    return table if same else None


def take_the_same(first, second):
    """Whether two machines take the same words."""
    return differ(taken(first), taken(second)) is None


def is_alike_table(first, second, table):
    """Whether the machines take the same words and the table is their right one-lag table."""
    if not same_alphabets(first, second):
        return False
    # The errors of the twin pairs come before those of the taken words.
    twins_of(first, second)
    return take_the_same(first, second) and is_one_lag(first, table, other=second)


def reader_parting(first, second):
    """The parting paper of two readers with the least word, or None if they are alike."""
    if not same_alphabets(first, second):
        raise Mismatch()
    partings = Partings(joint_tails(first, second))
    word = partings.word((0, first.first), (len(first), second.first))
    if word is None:
        return None
    return word, told_by(first, word), told_by(second, word)
