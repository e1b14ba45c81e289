"""How much readers hold back, and how long machines wait before they tell."""

from lagbound.checks import check_number
from lagbound.readers import run_over
from lagbound.rests import checked_parts
from lagbound.words import check_word

MAX_WAIT = 4000


def greatest_held(reader):
    """The length of the longest final word of a reached state, and the least read word to such a state, or None."""
    lasts = reader.finals
    found = None
    for state, word in reached_words(reader).items():
        last = lasts[state]
        if last is not None and (found is None or len(last) > found[0]):
            found = (len(last), word)
    return found


def reached_words(reader):
    """For each reached state the least read word that reaches it, in the word order of these words."""
    moves = reader.moves
    words = {0: ""}
    found = [0]
    at = 0
    while at < len(found):
        source = found[at]
        line = moves[source]
        for letter, move in zip(reader.read, line):
            if move is not None and move[1] not in words:
                words[move[1]] = words[source] + letter
                found.append(move[1])
        at += 1
    return words


def rest_after(machine, word):
    """What the reader of the machine has written for the word and the row of rests that it has reached, or None."""
    check_word(machine.read, word)
    reader, table = checked_parts(machine)
    run = run_over(reader, 0, word)
    return None if run is None else (reader.first + run[1], table[run[0]])


def greatest_wait(machine):
    """The greatest wait after a read word, and the least read word with this wait."""
    return max(waits(machine), key=wait_length)


def wait_word(machine, length):
    """The least read word after which the wait has at least so many letters, or None."""
    check_number(length, 0, MAX_WAIT)
    words = [word for wait, word in waits(machine) if wait >= length]
    return words[0] if words else None


def waits(machine):
    """For each row of rests its wait and the least read word that reaches it, in the word order of these words."""
    reader, table = checked_parts(machine)
    words = reached_words(reader)
    return [(max([len(rest) for _, rest in table[state]], default=0), word) for state, word in words.items()]


def wait_length(pair):
    """The wait of a pair of a wait and a word."""
    return pair[0]
