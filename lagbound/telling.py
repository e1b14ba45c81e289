"""The words that a machine tells for a read word."""

from lagbound.checks import check_number
from lagbound.errors import BadWord
from lagbound.stepping import arcs_by_letter, labels_over
from lagbound.words import check_word, common, is_word, sort_words

MAX_TOLD = 50


def told_words(machine, word, *, most=20):
    """The `most` least told words for the read word, and the flag that there are more."""
    check_word(machine.read, word)
    check_number(most, 0, MAX_TOLD)
    words = least_words(machine, word, most + 1)
    return words[:most], len(words) > most


def least_told(machine, word):
    """The least told word for the read word, or None."""
    check_word(machine.read, word)
    words = least_words(machine, word, 1)
    return words[0] if words else None


def takes(machine, word):
    """Whether the machine takes the read word."""
    check_word(machine.read, word)
    label = labels_over(machine, word)[0]
    return any(begin[0] in label for begin in machine.begins)


def tells(machine, word, told):
    """Whether told is one of the told words for the read word."""
    check_word(machine.read, word)
    if not is_word(machine.write, told):
        raise BadWord(told)
    return is_told(machine, word, told)


def least_words(machine, word, most):
    """The `most` least told words for a read word of any length, in the word order."""
    labels = labels_over(machine, word)
    arcs = arcs_by_letter(machine)
    # For each state the least words written on ways to it. What all of them begin with is moved to
    # the front: this keeps them short, and their order is the same without it.
    front = []
    kept = {}
    for state, written in machine.begins:
        if state in labels[0]:
            kept.setdefault(state, []).append(written)
    for at, letter in enumerate(word):
        longer = {}
        for state, words in kept.items():
            for arc in arcs[letter].get(state, []):
                if arc[3] in labels[at + 1]:
                    longer.setdefault(arc[3], []).extend([written + arc[2] for written in words])
        shared = common([written for words in longer.values() for written in words]) or ""
        front.append(shared)
        kept = {state: least_rests(words, len(shared), most) for state, words in longer.items()}
    told = [written + last for state, last in machine.ends for written in kept.get(state, [])]
    return ["".join(front) + rest for rest in least_rests(told, 0, most)]


def least_rests(words, length, most):
    """The `most` least of the words without their first letters, `length` of them, in the word order."""
    return sort_words([word[length:] for word in words])[:most]


def is_told(machine, word, told):
    """Whether told is a told word for a read word of any length."""
    arcs = arcs_by_letter(machine)
    spots = word_spots(machine, told)
    # For each state a number whose bit k is set if the first k letters of told are written there.
    kept = {}
    for state, written in machine.begins:
        kept[state] = kept.get(state, 0) | behind_word(1, written, spots)
    for letter in word:
        longer = {}
        for state, lengths in kept.items():
            for arc in arcs[letter].get(state, []):
                longer[arc[3]] = longer.get(arc[3], 0) | behind_word(lengths, arc[2], spots)
        kept = {state: lengths for state, lengths in longer.items() if lengths > 0}
    wholes = [behind_word(kept.get(state, 0), written, spots) >> len(told) for state, written in machine.ends]
    return any(whole == 1 for whole in wholes)


def word_spots(machine, told):
    """For each word in the machine a number whose bit k is set if the word stands at position k of told."""
    # Position 0 is the last digit of a number, and a text of binary digits is read at any length.
    backwards = told[::-1]
    letters = {}
    for letter in machine.write:
        letters[letter] = int("0" + "".join(["1" if sign == letter else "0" for sign in backwards]), 2)
    spots = {}
    for word in [pair[1] for pair in machine.begins + machine.ends] + [arc[2] for arc in machine.arcs]:
        spot = (1 << (len(told) + 1)) - 1
        for offset, letter in enumerate(word):
            spot = spot & (letters[letter] >> offset)
        spots[word] = spot
    return spots


def behind_word(lengths, word, spots):
    """The written lengths of told when the word is written behind each of them."""
    return (lengths & spots[word]) << len(word)
