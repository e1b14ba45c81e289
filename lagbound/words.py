"""Alphabets, words, the word order and lags."""

from lagbound.checks import check_number
from lagbound.errors import BadLetters, BadName, BadNumber, BadWord
from lagbound.limits import MAX_LETTERS, MAX_NAME, MAX_READ
from lagbound.plain import is_whole

SMALL_LETTERS = "abcdefghijklmnopqrstuvwxyz"
DIGITS = "0123456789"
MAX_ALL_WORDS = 6


def is_letters(value):
    """Whether the value is an alphabet."""
    if not isinstance(value, str) or not 1 <= len(value) <= MAX_LETTERS:
        return False
    if not all(letter in SMALL_LETTERS for letter in value):
        return False
    return list(value) == sorted(set(value))


def is_letter(letters, value):
    """Whether the value is a text of one letter of the alphabet."""
    return isinstance(value, str) and len(value) == 1 and value in letters


def is_word(letters, value):
    """Whether letters is an alphabet and the value a word over it, of any length."""
    if not is_letters(letters) or not isinstance(value, str):
        return False
    return all(letter in letters for letter in value)


def is_word_up_to(letters, value, most):
    """Whether the value is a word over the alphabet with at most `most` letters."""
    # The length comes first, so that a far too long text is not searched.
    return isinstance(value, str) and len(value) <= most and is_word(letters, value)


def is_name(value):
    """Whether the value is a name."""
    if not isinstance(value, str) or not 1 <= len(value) <= MAX_NAME:
        return False
    return value[0] in SMALL_LETTERS and all(sign in SMALL_LETTERS or sign in DIGITS for sign in value)


def check_letters(letters):
    """The alphabet, if it is one."""
    if not is_letters(letters):
        raise BadLetters(letters)
    return letters


def check_word(letters, word):
    """The word, if it is a word over the alphabet that may be passed as a read word."""
    check_letters(letters)
    if not is_word_up_to(letters, word, MAX_READ):
        raise BadWord(word)
    return word


def check_name(name):
    """The name, if it is one."""
    if not is_name(name):
        raise BadName(name)
    return name


def word_key(word):
    """What words are compared by in the word order."""
    return len(word), word


def sort_words(words):
    """The words in the word order, each once."""
    return sorted(sorted(set(words)), key=len)


def first_word(words):
    """The least of the words, or None if there are none."""
    return min(words, key=word_key, default=None)


def all_words(letters, most):
    """All words of at most `most` letters, in the word order."""
    check_letters(letters)
    check_number(most, 0, MAX_ALL_WORDS)
    words = [""]
    longest = [""]
    for _ in range(most):
        longest = [word + letter for word in longest for letter in letters]
        words.extend(list(longest))
    return words


def word_index(letters, word):
    """The number of words over the alphabet that come before the word."""
    check_word(letters, word)
    index = 0
    for letter in word:
        index = index * len(letters) + letters.index(letter) + 1
    return index


def word_at(letters, index):
    """The word with the index."""
    check_letters(letters)
    if not is_whole(index) or index < 0:
        raise BadNumber(index)
    backwards = []
    rest = index
    while rest > 0:
        if len(backwards) == MAX_READ:
            raise BadNumber(index)
        rest, digit = divmod(rest - 1, len(letters))
        backwards.append(letters[digit])
    return "".join(reversed(backwards))


def shared_length(first, second):
    """The number of letters of the common prefix of two texts."""
    most = min(len(first), len(second))
    shared = 0
    # Pieces are compared instead of letters, because the texts may be long. The next piece is longer
    # if this one was shared and shorter if it was not.
    size = 1
    while size > 0:
        if shared + size <= most and first[shared:shared + size] == second[shared:shared + size]:
            shared = shared + size
            size *= 2
        else:
            size = size // 2
    return shared


def common(words):
    """The common prefix of the words, or None if there are none."""
    if not words:
        return None
    # Every word lies between these two in the alphabetical order, so what they share all words share.
    low = min(words)
    high = max(words)
    return low[:shared_length(low, high)]


def starts(prefix, word):
    """Whether the word begins with the prefix."""
    return word.startswith(prefix)


def cut(prefix, word):
    """What remains of the word behind the prefix, or None if it is no prefix."""
    if not word.startswith(prefix):
        return None
    return word[len(prefix):]


def lag_of(first, second):
    """What remains of two words without their common prefix."""
    shared = shared_length(first, second)
    return first[shared:], second[shared:]


def move_lag(pair, first, second):
    """The lag when the two words are written behind the sides of the pair."""
    left, right = pair
    return lag_of(left + first, right + second)


def turn_word(word):
    """The reversed word."""
    return word[::-1]


def show_word(word):
    """The shown form of the word."""
    return word if word else "-"


def shown_word(letters, text, most):
    """The word of at most `most` letters whose shown form is the text, or None if there is none."""
    if text == "-":
        return ""
    if text == "" or not is_word_up_to(letters, text, most):
        return None
    return text


def read_shown(letters, text):
    """The word over the alphabet whose shown form is the text."""
    check_letters(letters)
    word = shown_word(letters, text, MAX_READ)
    if word is None:
        raise BadWord(text)
    return word
