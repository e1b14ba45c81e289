"""Rules: words that are replaced by others while a word is read from left to right."""

from lagbound.acceptors import Acceptor, least_acceptor
from lagbound.errors import BadEntry, Mismatch
from lagbound.plain import is_whole
from lagbound.readers import Reader
from lagbound.words import check_letters, check_word, is_word, is_word_up_to, word_key

MAX_RULES = 8
MAX_LEFT = 6
MAX_RIGHT = 8


class Rules:
    """An alphabet, and pairs of a left, which is replaced, and a right, which replaces it."""

    def __init__(self, letters, pairs):
        self._letters = check_letters(letters)
        self._pairs = checked_rules(letters, pairs)

    @property
    def letters(self):
        """The alphabet."""
        return self._letters

    @property
    def pairs(self):
        """The pairs of left and right in the order of the lefts."""
        return list(self._pairs)

    def __len__(self):
        return len(self._pairs)


def checked_rules(letters, pairs):
    """The pairs in order, if they are rules over the alphabet."""
    if not isinstance(pairs, (list, tuple)) or len(pairs) > MAX_RULES:
        raise BadEntry("pairs", None)
    known = {}
    for index, pair in enumerate(pairs):
        if not is_rule(letters, pair) or pair[0] in known:
            raise BadEntry("pairs", index)
        known[pair[0]] = True
    return sorted(pairs, key=rule_key)


def is_rule(letters, value):
    """Whether the value has the form of a pair of left and right over the alphabet."""
    if not isinstance(value, tuple) or len(value) != 2:
        return False
    left, right = value
    return is_word_up_to(letters, left, MAX_LEFT) and left != "" and is_word_up_to(letters, right, MAX_RIGHT)


def rule_key(pair):
    """What pairs of left and right are compared by."""
    return word_key(pair[0])


class Reading:
    """The plain reading by rules, whole or piece by piece."""

    def __init__(self, rules):
        self.rights = dict(rules.pairs)
        self.sizes = sorted({len(left) for left in self.rights})[::-1]
        self.fronts = {"": True}
        for left in self.rights:
            for size in range(len(left)):
                self.fronts[left[:size]] = True

    def left_at(self, text, at):
        """The longest left that begins the text at the position, or None."""
        for size in self.sizes:
            if text[at:at + size] in self.rights:
                return text[at:at + size]
        return None

    def whole(self, word):
        """What the reading of the word writes, and its spots."""
        written = []
        found = []
        at = 0
        while at < len(word):
            left = self.left_at(word, at)
            if left is None:
                written.append(word[at])
                at += 1
            else:
                written.append(self.rights[left])
                found.append((at, left))
                at = at + len(left)
        return "".join(written), found

    def settled(self, text):
        """What is written while the text is settled, and what is left of it."""
        written = []
        rest = text
        while rest not in self.fronts:
            left = self.left_at(rest, 0)
            if left is None:
                written.append(rest[0])
                rest = rest[1:]
            else:
                written.append(self.rights[left])
                rest = rest[len(left):]
        return "".join(written), rest


def spots(rules, word):
    """The pairs of a position and the left that the plain reading of the word uses there."""
    return Reading(rules).whole(check_word(rules.letters, word))[1]


def rewrite(rules, word):
    """What the plain reading of the word writes."""
    return Reading(rules).whole(check_word(rules.letters, word))[0]


def is_spots(rules, word, paper):
    """Whether the paper is the list of the spots of the word."""
    if not is_word(rules.letters, word) or not isinstance(paper, list):
        return False
    if not all(is_spot(value) for value in paper):
        return False
    return paper == Reading(rules).whole(word)[1]


def is_spot(value):
    """Whether the value is a pair of an integer and a text."""
    return isinstance(value, tuple) and len(value) == 2 and is_whole(value[0]) and isinstance(value[1], str)


def pending(rules):
    """The pending texts in the order of the states of the rule reader."""
    return pending_texts(rules)[0]


def pending_texts(rules):
    """The pending texts, numbered by finding, and for each of them the moves of the rule reader."""
    reading = Reading(rules)
    numbers = {"": 0}
    texts = [""]
    moves = []
    while len(moves) < len(texts):
        text = texts[len(moves)]
        row = []
        for letter in rules.letters:
            written, rest = reading.settled(text + letter)
            if rest not in numbers:
                numbers[rest] = len(texts)
                texts.append(rest)
            row.append((written, numbers[rest]))
        moves.append(row)
    return texts, moves


def rule_reader(rules):
    """The reader that rewrites every word by the rules."""
    reading = Reading(rules)
    texts, moves = pending_texts(rules)
    finals = [reading.whole(text)[0] for text in texts]
    return Reader(rules.letters, rules.letters, "", moves, finals)


def untouched(rules):
    """The least acceptor of the words in which no left occurs."""
    reading = Reading(rules)
    numbers = {"": 0}
    texts = [""]
    rows = []
    while len(rows) < len(texts):
        text = texts[len(rows)]
        row = []
        for letter in rules.letters:
            front = watched(reading, text + letter)
            if front is not None and front not in numbers:
                numbers[front] = len(texts)
                texts.append(front)
            row.append(None if front is None else numbers[front])
        rows.append(row)
    trap = len(rows)
    moves = [[trap if target is None else target for target in row] for row in rows]
    moves.append([trap] * len(rules.letters))
    return least_acceptor(Acceptor(rules.letters, moves, list(range(trap))))


def watched(reading, text):
    """The longest end of the text that a left may begin with, or None if the text ends with a left."""
    ends = [text[at:] for at in range(len(text) + 1)]
    if any(end in reading.rights for end in ends):
        return None
    return [end for end in ends if end in reading.fronts][0]


def rewrite_all(cascade, word):
    """The word, rewritten by each of the rules in turn."""
    text = check_word(cascade[0].letters, word)
    check_cascade(cascade)
    for rules in cascade:
        text = Reading(rules).whole(text)[0]
    return text


def cascade_reader(cascade):
    """The rule readers of all rules, each behind the one before it."""
    check_cascade(cascade)
    reader = rule_reader(cascade[0])
    for rules in cascade[1:]:
        reader = reader >> rule_reader(rules)
    return reader


def check_cascade(cascade):
    """Nothing, if all of the rules have the same alphabet."""
    if any(rules.letters != cascade[0].letters for rules in cascade):
        raise Mismatch()
