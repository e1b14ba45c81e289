"""Learning the least form of a reader from answers alone.

Heads are read words that stand for states, endings are read words that tell heads apart; the endings contain every
end of each of them. What all told words behind a head begin with is its front.
"""

from lagbound.errors import TooLarge
from lagbound.least import least
from lagbound.readers import built_reader, empty_reader
from lagbound.words import common, word_key


class Learner:
    """What was learned from a teacher so far about a reader whose least form should have `most` states at most."""

    def __init__(self, teacher, most):
        self.teacher = teacher
        self.most = most
        self.answers = {}
        self.heads = []
        self.tried = {"": True}
        # For each head, and for each head with one letter more, its front, or None if no told word is known.
        self.known_fronts = {}
        # Those of them for which a told word with a short ending is known.
        self.ended = {}
        self.add_head("")

    def told(self, word):
        """The told word or None, which is asked for once."""
        if word not in self.answers:
            self.answers[word] = self.teacher.ask(word)
        return self.answers[word]

    def add_head(self, head):
        """One more head, and the words behind it."""
        if len(self.heads) == self.most:
            raise TooLarge("states", self.most)
        self.heads.append(head)
        for word in [head] + [head + letter for letter in self.teacher.read]:
            if word not in self.known_fronts:
                told = [self.told(word + ending) for ending in self.tried]
                self.known_fronts[word] = common([text for text in told if text is not None])

    def add_endings(self, endings):
        """More endings, with all that they tell."""
        for ending in endings:
            if ending not in self.tried:
                self.tried[ending] = True
                for word in list(self.known_fronts):
                    self.note_told(word, self.told(word + ending))

    def note_told(self, word, told):
        """One more told word, or None, behind a word with a front."""
        front = self.known_fronts[word]
        if told is not None:
            self.known_fronts[word] = told if front is None else common([front, told])

    def learned(self):
        """The least form, which the last question was about."""
        while True:
            endings = self.missing_short() or self.missing_shorter()
            head = None if endings else self.missing_head()
            if endings:
                self.add_endings(endings)
            elif head is not None:
                self.add_head(head)
            else:
                reader = self.guess()
                word = self.teacher.whole(reader)
                if word is None:
                    return reader
                self.add_endings(ends_of(word))

    def missing_short(self):
        """New endings because some word has none yet with less letters than there may be states, or an empty list."""
        for word, front in self.known_fronts.items():
            if front is not None and word not in self.ended:
                told = [ending for ending in self.tried if self.told(word + ending) is not None]
                ending = min(told, key=word_key)
                self.ended[word] = True
                if len(ending) >= self.most:
                    return ends_of(self.short_ending(word, ending))
        return []

    def short_ending(self, word, ending):
        """An ending behind the word with less letters than there are states, made of pieces of a longer one."""
        short = ending
        while len(short) >= self.most:
            short = self.left_out(word, short)
        return short

    def left_out(self, word, ending):
        """The ending without a stretch, if the word has a told word with it."""
        # Among the states behind the first letters, one more than there may be, some state occurs twice.
        for start in range(self.most):
            for stop in reversed(range(start + 1, self.most + 1)):
                rest = ending[:start] + ending[stop:]
                if self.told(word + rest) is not None:
                    return rest
        raise TooLarge("states", self.most)

    def missing_shorter(self):
        """A new ending because the front of some head is no part of a front behind it, or an empty list."""
        for head in self.heads:
            front = self.known_fronts[head]
            for letter in self.teacher.read:
                behind = self.known_fronts[head + letter]
                if behind is not None and (front is None or not behind.startswith(front)):
                    told = [ending for ending in self.tried if self.is_unlike(head + letter + ending, front)]
                    return [letter + min(told, key=word_key)]
        return []

    def is_unlike(self, word, front):
        """Whether the word has a told word that does not begin with the front, which may be None."""
        told = self.told(word)
        return told is not None and (front is None or not told.startswith(front))

    def missing_head(self):
        """A word behind a head that is like no head, or None."""
        rows = self.head_rows()
        for head in self.heads:
            for letter in self.teacher.read:
                word = head + letter
                if self.known_fronts[word] is not None and self.row_of(word) not in rows:
                    return word
        return None

    def head_rows(self):
        """For the row of each head with a front the number of the head."""
        live = [(number, head) for number, head in enumerate(self.heads) if self.known_fronts[head] is not None]
        return {self.row_of(head): number for number, head in live}

    def row_of(self, word):
        """For each ending the told word behind the front of the word, or None."""
        length = len(self.known_fronts[word])
        told = [self.told(word + ending) for ending in self.tried]
        return tuple([None if text is None else text[length:] for text in told])

    def guess(self):
        """The least form of the reader whose states are the heads."""
        read = self.teacher.read
        write = self.teacher.write
        first = self.known_fronts[""]
        if first is None:
            return empty_reader(read, write)
        rows = self.head_rows()
        moves = []
        finals = []
        for head in self.heads:
            length = len(self.known_fronts[head])
            told = self.told(head)
            finals.append(None if told is None else told[length:])
            moves.append([self.guessed_move(head + letter, length, rows) for letter in read])
        return least(built_reader(read, write, first, moves, finals))

    def guessed_move(self, word, length, rows):
        """The move to the head that the word is like, without so many letters at the front, or None."""
        front = self.known_fronts[word]
        return None if front is None else (front[length:], rows[self.row_of(word)])


def ends_of(word):
    """All suffixes of the word, the word itself and the empty one included."""
    return [word[at:] for at in range(len(word) + 1)]
