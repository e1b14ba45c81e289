"""Acceptors of told sets of words, and questions about the words of acceptors."""

from lagbound.acceptors import Acceptor, least_acceptor
from lagbound.checks import check_number
from lagbound.errors import BadWord, Mismatch, TooLarge
from lagbound.limits import MAX_ACCEPTOR, MAX_READ
from lagbound.words import check_letters, is_word_up_to

MAX_WORDS = 200
MAX_COUNTED_LENGTH = 1000


def all_of(letters):
    """The least acceptor of all words."""
    check_letters(letters)
    return Acceptor(letters, [[0] * len(letters)], [0])


def none_of(letters):
    """The least acceptor of no words."""
    check_letters(letters)
    return Acceptor(letters, [[0] * len(letters)], [])


def only(letters, words):
    """The least acceptor of exactly the words."""
    check_letters(letters)
    for word in words:
        if not is_word_up_to(letters, word, MAX_READ):
            raise BadWord(word)
    tree, ends = prefix_tree(letters, words)
    trap = len(tree)
    moves = [[trap if target is None else target for target in row] for row in tree]
    moves.append([trap] * len(letters))
    return least_acceptor(Acceptor(letters, moves, ends))


def prefix_tree(letters, words):
    """A state for each prefix of the words, with its next state or None for each letter, and the ends."""
    tree = [[None] * len(letters)]
    ends = []
    for word in words:
        state = 0
        for letter in word:
            place = letters.index(letter)
            if tree[state][place] is None:
                tree[state][place] = len(tree)
                tree.append([None] * len(letters))
                # One state is left for all words that are no prefixes.
                if len(tree) > MAX_ACCEPTOR - 1:
                    raise TooLarge("states", MAX_ACCEPTOR)
            state = tree[state][place]
        ends.append(state)
    return tree, ends


def least_word(acceptor):
    """The least accepted word, or None."""
    return differ(acceptor, none_of(acceptor.letters))


def words_of(acceptor, *, most=20):
    """The `most` least accepted words in the word order, or all of them."""
    check_number(most, 0, MAX_WORDS)
    letters = acceptor.letters
    moves = acceptor.moves
    sources = found_sources(moves)
    # For each found state the first accepted words of one length from there.
    words = {end: [""] for end in acceptor.ends if end in sources}
    found = []
    while words and len(found) < most:
        found.extend(list(words.get(0, [])))
        words = longer_words(letters, moves, sources, words, most)
    return found[:most]


def found_sources(moves):
    """For each found state the found states with a move to it."""
    found = [0]
    sources = {0: []}
    at = 0
    while at < len(found):
        state = found[at]
        for target in moves[state]:
            if target not in sources:
                sources[target] = []
                found.append(target)
            sources[target].append(state)
        at += 1
    return sources


def longer_words(letters, moves, sources, words, most):
    """For each found state the first `most` accepted words that are one letter longer than those given."""
    # Only states one step ahead of a word are looked at: words may be long and rare.
    ahead = {source: True for state in words for source in sources[state]}
    longer = {}
    for state in ahead:
        row = []
        for letter, target in zip(letters, moves[state]):
            row.extend([letter + word for word in words.get(target, [])])
        longer[state] = row[:most]
    return longer


def count_words(acceptor, length):
    """The number of accepted words of exactly this length."""
    check_number(length, 0, MAX_COUNTED_LENGTH)
    moves = acceptor.moves
    counts = [0] * len(moves)
    counts[0] = 1
    for _ in range(length):
        fresh = [0] * len(moves)
        for state, row in enumerate(moves):
            for target in row:
                fresh[target] = fresh[target] + counts[state]
        counts = fresh
    return sum([counts[end] for end in acceptor.ends])


def differ(first, second):
    """The least word that exactly one of two acceptors accepts, or None."""
    if first.letters != second.letters:
        raise Mismatch()
    letters = first.letters
    left_moves = first.moves
    right_moves = second.moves
    left_ends = {state: True for state in first.ends}
    right_ends = {state: True for state in second.ends}
    pairs = [(0, 0)]
    found = {(0, 0): True}
    origins = [(0, "")]
    at = 0
    while at < len(pairs):
        left, right = pairs[at]
        if (left in left_ends) != (right in right_ends):
            return spelled(origins, at)
        for letter, left_next, right_next in zip(letters, left_moves[left], right_moves[right]):
            pair = (left_next, right_next)
            if pair not in found:
                found[pair] = True
                pairs.append(pair)
                origins.append((at, letter))
        at += 1
    return None


def spelled(origins, at):
    """The word on the way from the first pair; an origin is the pair before and the letter between."""
    backwards = []
    while at > 0:
        at, letter = origins[at]
        backwards.append(letter)
    return "".join(reversed(backwards))
