"""Books: named items, and the rows of the commands that made them."""

from lagbound.commands import carried_out, read_command, show_item
from lagbound.errors import LagError, NameUnknown, NothingToUndo, TooLarge
from lagbound.limits import MAX_ROWS


class Book:
    """Named items, and a row of a line and its answer for each command that was carried out."""

    def __init__(self):
        self._filed = {}
        self._rows = []
        # For each row what undoing it puts back: None, or a pair of a name and its item or None.
        self._earlier = []

    @property
    def names(self):
        """The names of all items in ascending order."""
        return sorted(self._filed)

    def __len__(self):
        return len(self._rows)

    def __iter__(self):
        return iter(self._rows)

    def run(self, line):
        """The answer to the command of the line, which is carried out."""
        command, values = read_command(line, self._filed)
        if len(self._rows) >= MAX_ROWS:
            raise TooLarge("rows", MAX_ROWS)
        answer, change = carried_out(command, line.split(" ")[1], values)
        earlier = None if change is None else (change[0], self._filed.get(change[0]))
        self.put(change)
        self._rows.append((line, answer))
        self._earlier.append(earlier)
        return answer

    def put(self, change):
        """A change of the items: none, or a name with its new item or None."""
        if change is not None:
            name, item = change
            if item is None:
                del self._filed[name]
            else:
                self._filed[name] = item

    def undo(self):
        """The line of the last row, which is taken back."""
        if not self._rows:
            raise NothingToUndo()
        self.put(self._earlier.pop())
        return self._rows.pop()[0]

    def show(self, name):
        """The text of the item with the name."""
        if not isinstance(name, str) or name not in self._filed:
            raise NameUnknown(name)
        return show_item(self._filed[name])

    def twin(self):
        """A book of its own with the same rows and equal items."""
        other = Book()
        other._filed = dict(self._filed)
        other._rows = list(self._rows)
        other._earlier = list(self._earlier)
        return other


def replay(lines):
    """A new book in which the lines were run in order."""
    book = Book()
    for line in lines:
        book.run(line)
    return book


def audit(rows):
    """The index of the first row that a new book does not answer so, or None."""
    book = Book()
    for index, row in enumerate(rows):
        if not is_row(row) or answered(book, row[0]) != row[1]:
            return index
    return None


def is_row(value):
    """Whether the value is a pair of texts."""
    return isinstance(value, tuple) and len(value) == 2 and isinstance(value[0], str) and isinstance(value[1], str)


def answered(book, line):
    """The answer of the book to the line, or None if that raises an error."""
    try:
        return book.run(line)
    except LagError:
        return None


def compare(first, second):
    """The names in ascending order whose items are not equal in two books, or that one of them has alone."""
    left = {name: first.show(name) for name in first.names}
    right = {name: second.show(name) for name in second.names}
    return [name for name in sorted(set(list(left) + list(right))) if left.get(name) != right.get(name)]
