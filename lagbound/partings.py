"""The least read words for which the tails of two states part."""

from lagbound.tails import alike_states
from lagbound.words import lag_of, shared_length


class Partings:
    """The partings of the states of a table. A side is a pair of a state, or None, and a text before its tails.

    Level k has for each state with tails for read words of at most k letters a pair: the number of letters that all
    these tails share, and a number that two states have in common exactly if what remains of these tails is equal.
    The levels tell the length of a least parting word, and then its letters from the front.
    """

    def __init__(self, tails):
        self.tails = tails
        self.groups = alike_states(tails.early_lines())
        self.levels = []

    def word(self, left, right):
        """The least read word over which the two sides do not tell the same, or None."""
        if self.at_last(left) == self.at_last(right):
            return None
        length = 0
        while self.at_level(length, left) == self.at_level(length, right):
            length += 1
        letters = []
        for number in reversed(range(length)):
            letter, left, right = self.parted(number, left, right)
            letters.append(letter)
        return "".join(letters)

    def at_last(self, side):
        """What all told words of a side begin with and the group of what remains, or None if there are none."""
        state, text = side
        if state not in self.groups:
            return None
        return text + self.tails.ahead_word(state), self.groups[state]

    def at_level(self, number, side):
        """The same for the told words for read words of at most so many letters."""
        state, text = side
        while len(self.levels) <= number:
            self.levels.append(self.longer(self.levels[-1] if self.levels else {}))
        if state not in self.levels[number]:
            return None
        length, group = self.levels[number][state]
        return text + self.tails.endings[state][1][:length], group

    def longer(self, level):
        """The level behind a level; the first one stands behind an empty one."""
        numbers = {}
        fresh = {}
        for state, (_, tail) in self.tails.endings.items():
            last = self.tails.lasts[state]
            told = [self.text_behind(move, level) for move in self.tails.lines[state]]
            texts = [pair[0] for pair in told if pair is not None] + ([] if last is None else [last])
            if texts:
                shared = min([shared_length(tail, text) for text in texts])
                rests = tuple([None if pair is None else (pair[0][shared:], pair[1]) for pair in told])
                mark = (None if last is None else last[shared:], rests)
                fresh[state] = (shared, numbers.setdefault(mark, len(numbers)))
        return fresh

    def text_behind(self, move, level):
        """What all tails that begin with a move share and the group of what remains, or None if there are none."""
        if move is None or move[1] not in level:
            return None
        length, group = level[move[1]]
        return move[0] + self.tails.endings[move[1]][1][:length], group

    def parted(self, number, left, right):
        """The first letter behind which the sides part at the level, and the sides behind it."""
        for place, letter in enumerate(self.tails.alphabet):
            state, text = self.moved(left, place)
            mate, other = self.moved(right, place)
            # What the texts have in common is left out, which keeps them short.
            text, other = lag_of(text, other)
            if self.at_level(number, (state, text)) != self.at_level(number, (mate, other)):
                return letter, (state, text), (mate, other)

    def moved(self, side, place):
        """The side behind the letter at the place of the alphabet."""
        state, text = side
        move = None if state is None else self.tails.lines[state][place]
        return (None, "") if move is None else (move[1], text + move[0])
