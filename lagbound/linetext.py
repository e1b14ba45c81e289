"""Reading texts line by line and word by word, with the first wrong place."""

from lagbound.errors import BadLine
from lagbound.limits import MAX_WRITTEN
from lagbound.words import DIGITS, is_letter, is_letters, shown_word

# The kinds of words of a line. A form is a pair of a kind and of what it allows, which is told
# behind each kind.
EXACT = "exact"  # the only text
LETTERS = "letters"  # None, since any alphabet may stand there
LETTER = "letter"  # the alphabet
SHOWN = "shown"  # the alphabet
NUMERAL = "numeral"  # the pair of the least and the greatest number


def split_lines(text):
    """The list of the words of each line."""
    return [line.split(" ") for line in text.split("\n")]


def read_line(number, words, forms):
    """The values of the words of a line, if they have the forms, one for each."""
    values = []
    for place, form in enumerate(forms, start=1):
        value = read_form(form, words[place - 1]) if place <= len(words) else None
        if value is None:
            raise BadLine(number, place)
        values.append(value)
    if len(words) > len(forms):
        raise BadLine(number, len(forms) + 1)
    return values


def read_form(form, word):
    """The value of a word that has the form, or None if it does not have it."""
    kind, allowed = form
    if kind == NUMERAL:
        return read_numeral(word, allowed[0], allowed[1])
    if kind == SHOWN:
        return shown_word(allowed, word, MAX_WRITTEN)
    if kind == LETTER:
        return word if is_letter(allowed, word) else None
    if kind == LETTERS:
        return word if is_letters(word) else None
    return word if word == allowed else None


def read_numeral(word, low, high):
    """The number that the word is the numeral of, or None if there is none from low to high."""
    if word == "" or not all(digit in DIGITS for digit in word):
        return None
    if len(word) > 1 and word.startswith("0"):
        return None
    # Python does not turn a text of thousands of digits into a number.
    if len(word) > len(str(high)) or not low <= int(word) <= high:
        return None
    return int(word)
