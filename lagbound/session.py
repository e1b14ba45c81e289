"""Sessions: a reader that is run letter by letter, and back."""

from lagbound.errors import BadWord, Closed, NoMove, NotFinal, NothingToUndo
from lagbound.words import is_letter


class Session:
    """A run of a reader over any number of letters."""

    def __init__(self, reader):
        self._reader = reader
        self._alphabet = reader.read
        self._first = reader.first
        self._lines = reader.moves
        self._lasts = reader.finals
        # The letters with the words that their moves wrote, and the states at the start and behind each of them.
        self._pushed = []
        self._states = [0]
        self._closed = False

    @property
    def state(self):
        """The state of the reader."""
        return self._states[-1]

    @property
    def taken(self):
        """The letters pushed so far."""
        return "".join([letter for letter, _ in self._pushed])

    @property
    def written(self):
        """Everything written so far."""
        last = self._lasts[self._states[-1]] if self._closed else ""
        return self._first + "".join([word for _, word in self._pushed]) + last

    @property
    def held(self):
        """The number of letters that closing would write, None if it would fail, or 0 behind it."""
        if self._closed:
            return 0
        last = self._lasts[self._states[-1]]
        return None if last is None else len(last)

    @property
    def closed(self):
        """Whether the session is closed."""
        return self._closed

    def __len__(self):
        return len(self._pushed)

    def __iter__(self):
        return iter(self._pushed)

    def push(self, letter):
        """The word that the move by the letter writes."""
        if not self.reads(letter):
            raise BadWord(letter)
        if self._closed:
            raise Closed()
        move = self._lines[self._states[-1]][self._alphabet.index(letter)]
        if move is None:
            raise NoMove(letter)
        self._pushed.append((letter, move[0]))
        self._states.append(move[1])
        return move[0]

    def reads(self, value):
        """Whether the value is a text of one letter of the read alphabet."""
        return is_letter(self._alphabet, value)

    def close(self):
        """The final word of the state, which is written."""
        if self._closed:
            raise Closed()
        last = self._lasts[self._states[-1]]
        if last is None:
            raise NotFinal()
        self._closed = True
        return last

    def back(self):
        """The letter of the latest push, which is taken back, or the empty text for a close."""
        if self._closed:
            self._closed = False
            return ""
        if not self._pushed:
            raise NothingToUndo()
        letter, _ = self._pushed.pop()
        self._states.pop()
        return letter

    def twin(self):
        """A session of its own that stands where this one stands."""
        other = Session(self._reader)
        for letter in self.taken:
            other.push(letter)
        if self._closed:
            other.close()
        return other
