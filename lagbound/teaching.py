"""Teachers, who answer questions about a reader, and learning from them."""

from lagbound.alike import reader_parting
from lagbound.checks import check_number
from lagbound.errors import BadLine
from lagbound.learning import Learner
from lagbound.limits import MAX_STATES
from lagbound.machines import same_alphabets
from lagbound.readers import told_by
from lagbound.readertext import read_reader, show_reader
from lagbound.words import is_word

WORD = "word"
WHOLE = "whole"


class Teacher:
    """A reader about which questions are answered, and the log of the answers."""

    def __init__(self, reader):
        self._reader = reader
        self._read = reader.read
        self._write = reader.write
        self._log = []

    @property
    def read(self):
        """The read alphabet of the reader."""
        return self._read

    @property
    def write(self):
        """The write alphabet of the reader."""
        return self._write

    @property
    def words_asked(self):
        """The number of questions about words."""
        return len([row for row in self._log if row[0] == WORD])

    @property
    def wholes_asked(self):
        """The number of questions about whole readers."""
        return len([row for row in self._log if row[0] == WHOLE])

    def __len__(self):
        return len(self._log)

    def __iter__(self):
        return iter(self._log)

    def ask(self, word):
        """The told word, or None."""
        answer = self._reader.tell(word)
        self._log.append((WORD, word, answer))
        return answer

    def whole(self, reader):
        """The least read word for which the reader and the held one do not tell the same, or None."""
        answer = parting_word(self._reader, reader)
        self._log.append((WHOLE, show_reader(reader), answer))
        return answer


def parting_word(first, second):
    """The least read word for which the two readers do not tell the same, or None."""
    paper = reader_parting(first, second)
    return None if paper is None else paper[0]


def learn(teacher, *, most=16):
    """The least form of the reader that the teacher holds, found by questions alone."""
    check_number(most, 1, MAX_STATES)
    return Learner(teacher, most).learned()


def lesson(teacher, reader):
    """The rows of the log of the teacher, and the text of the reader."""
    return list(teacher), show_reader(reader)


def is_lesson(reader, paper):
    """Whether the paper is a right lesson about the reader."""
    if not isinstance(paper, tuple) or len(paper) != 2:
        return False
    rows, text = paper
    if not isinstance(rows, list) or len(rows) == 0 or not isinstance(text, str):
        return False
    if not all([is_answered(reader, row) for row in rows]):
        return False
    words = [row[1] for row in rows if row[0] == WORD]
    return len(words) == len(set(words)) and rows[-1] == (WHOLE, text, None)


def is_answered(reader, row):
    """Whether the row is a question with the answer of a teacher who holds the reader."""
    if not isinstance(row, tuple) or len(row) != 3:
        return False
    kind, question, answer = row
    if kind == WORD and is_word(reader.read, question):
        return answer == told_by(reader, question)
    if kind == WHOLE and isinstance(question, str):
        other = shown_reader(question)
        if other is not None and same_alphabets(reader, other):
            return answer == parting_word(reader, other)
    return False


def shown_reader(text):
    """The reader whose shown text is exactly the text, or None."""
    try:
        reader = read_reader(text)
    except BadLine:
        return None
    return reader if show_reader(reader) == text else None
