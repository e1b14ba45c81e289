"""The tails of the states of readers: what all tails of a state begin with, and which states have equal tails."""

from lagbound.stepping import least_endings
from lagbound.words import shared_length


class Tails:
    """The tails of all states of a table of moves and final words, which may be those of two readers."""

    def __init__(self, alphabet, lines, lasts):
        self.alphabet = alphabet
        self.lines = lines
        self.lasts = lasts
        arcs = []
        for source, line in enumerate(lines):
            for letter, move in zip(alphabet, line):
                if move is not None:
                    arcs.append((source, letter, move[0], move[1]))
        ends = [(state, word) for state, word in enumerate(lasts) if word is not None]
        # For each state with tails the least read word of one, and this tail.
        self.endings = least_endings(arcs, ends)
        # For each of them the number of letters that all its tails share, and the read word of a tail that shares
        # exactly these with the least one.
        self.common = self.common_parts()

    def common_parts(self):
        """What is kept in `common`, found round by round from the least tails alone."""
        parts = {state: (len(tail), word) for state, (word, tail) in self.endings.items()}
        while True:
            shorter = {state: self.shortened(state, parts) for state in parts}
            if shorter == parts:
                return parts
            parts = shorter

    def shortened(self, state, parts):
        """The common part of a state, after the common parts behind its moves are looked at."""
        # The final word of a state, if there is one, is its least tail.
        tail = self.endings[state][1]
        kept = parts[state]
        for letter, move in zip(self.alphabet, self.lines[state]):
            if move is not None and move[1] in parts:
                other = self.common_behind(tail, letter, move, parts[move[1]])
                if other[0] < kept[0]:
                    kept = other
        return kept

    def common_behind(self, tail, letter, move, part):
        """The number of letters that a tail shares with all tails that begin with a move, and a read word of one."""
        word, rest = self.endings[move[1]]
        length, other = part
        text = move[0] + rest[:length]
        shared = shared_length(tail, text)
        # Where the whole text is shared, one of two tails goes on like the given one at most.
        if shared == len(text) and length < len(rest) and tail[shared:shared + 1] == rest[length]:
            return shared, letter + other
        return shared, letter + word

    def ahead_word(self, state):
        """The ahead word of a state with tails."""
        return self.endings[state][1][:self.common[state][0]]

    def early_lines(self):
        """For each state with tails the pair of its final word and its moves in the early form, each or None.

        The states keep their numbers, and moves to states without tails are left out.
        """
        words = {state: self.ahead_word(state) for state in self.endings}
        lines = {}
        for state, word in words.items():
            last = self.lasts[state]
            moves = []
            for move in self.lines[state]:
                if move is None or move[1] not in words:
                    moves.append(None)
                else:
                    moves.append(((move[0] + words[move[1]])[len(word):], move[1]))
            lines[state] = (None if last is None else last[len(word):], moves)
        return lines


def reader_tails(reader):
    """The tails of the states of the reader."""
    return Tails(reader.read, reader.moves, reader.finals)


def joint_tails(first, second):
    """The tails of the states of two readers with the same read alphabet; those of the second one come behind."""
    moved = []
    for line in second.moves:
        moved.append([None if move is None else (move[0], len(first) + move[1]) for move in line])
    return Tails(first.read, first.moves + moved, first.finals + second.finals)


def alike_states(lines):
    """For each state of early lines a number: two states have the same one exactly if their early tails are equal."""
    groups = {state: 0 for state in lines}
    count = 1
    while True:
        numbers = {}
        finer = {}
        for state, (last, moves) in lines.items():
            targets = tuple([None if move is None else (move[0], groups[move[1]]) for move in moves])
            mark = (groups[state], last, targets)
            finer[state] = numbers.setdefault(mark, len(numbers))
        # A round that splits no group ends it: then no later round can.
        if len(numbers) <= count:
            return finer
        groups = finer
        count = len(numbers)
