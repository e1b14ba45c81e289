"""Two passes over a read word, which run any machine: from the right with labels, then from the left with one state."""

from lagbound.courses import is_course, told_of
from lagbound.errors import TooLarge
from lagbound.limits import MAX_LABELS
from lagbound.plain import is_whole
from lagbound.stepping import arcs_by_letter, entries_by_state, leads_into
from lagbound.words import check_word, is_word


class Labels:
    """The labels of a machine, each with a number, as far as they were asked for.

    A label tells from which states the rest of a read word leads to a state with an end.
    """

    def __init__(self, machine):
        self.table = arcs_by_letter(machine)
        first = tuple(sorted(entries_by_state(machine.ends)))
        self.lists = [first]
        self.numbers = {first: 0}
        self.onward = {}

    def in_front(self, number, letter):
        """The number of the label for the letter in front of what a label is for."""
        if (number, letter) not in self.onward:
            members = {state: True for state in self.lists[number]}
            rows = self.table[letter]
            label = tuple(sorted([state for state, arcs in rows.items() if leads_into(arcs, members)]))
            if label not in self.numbers:
                self.numbers[label] = len(self.lists)
                self.lists.append(label)
            self.onward[(number, letter)] = self.numbers[label]
        return self.onward[(number, letter)]


class TwoPass:
    """The two passes of a machine."""

    def __init__(self, machine):
        self._machine = machine
        self._table = arcs_by_letter(machine)
        labels = Labels(machine)
        self._rows = []
        while len(self._rows) < len(labels.lists):
            number = len(self._rows)
            self._rows.append([labels.in_front(number, letter) for letter in machine.read])
            if len(labels.lists) > MAX_LABELS:
                raise TooLarge("labels", MAX_LABELS)
        self._found = labels.lists

    @property
    def labels(self):
        """The labels by number, each an ascending list of states."""
        return [list(label) for label in self._found]

    @property
    def rows(self):
        """For each label the list of the numbers of the labels that the letters lead to."""
        return [list(row) for row in self._rows]

    def labels_of(self, word):
        """The numbers of the labels at all positions of the word, its end included."""
        check_word(self._machine.read, word)
        places = {letter: place for place, letter in enumerate(self._machine.read)}
        backwards = [0]
        for letter in reversed(word):
            backwards.append(self._rows[backwards[-1]][places[letter]])
        return backwards[::-1]

    def course(self, word):
        """The course of the second pass, or None."""
        labels = [self._found[number] for number in self.labels_of(word)]
        return second_pass(self._machine, self._table, labels, word)

    def tell(self, word):
        """What the course of the second pass tells, or None."""
        course = self.course(word)
        return None if course is None else told_of(course)


def second_pass(machine, table, labels, word):
    """The course that the second pass takes over the word with its labels, or None."""
    begins = [begin for begin in machine.begins if begin[0] in labels[0]]
    if not begins:
        return None
    state = begins[0][0]
    arcs = []
    for letter, label in zip(word, labels[1:]):
        onward = [arc for arc in table[letter][state] if arc[3] in label]
        arcs.append(onward[0])
        state = onward[0][3]
    return begins[0], arcs, entries_by_state(machine.ends)[state][0]


def pass_paper(two_pass, word):
    """The labels at all positions of the word, and the course of the second pass."""
    numbers = two_pass.labels_of(word)
    labels = two_pass.labels
    return [list(labels[number]) for number in numbers], two_pass.course(word)


def is_pass_paper(machine, word, paper):
    """Whether the paper is the pass paper of the machine for the word."""
    if not is_word(machine.read, word) or not isinstance(paper, tuple) or len(paper) != 2:
        return False
    told, course = paper
    labels = labels_over_any(machine, word)
    if not isinstance(told, list) or len(told) != len(labels):
        return False
    if not all([is_label(value, label) for value, label in zip(told, labels)]):
        return False
    right = second_pass(machine, arcs_by_letter(machine), labels, word)
    if right is None:
        return course is None
    return is_course(machine, course) and course == right


def labels_over_any(machine, word):
    """The labels at all positions of a word of any length, however many labels the machine has."""
    labels = Labels(machine)
    backwards = [0]
    for letter in reversed(word):
        backwards.append(labels.in_front(backwards[-1], letter))
    return [labels.lists[number] for number in reversed(backwards)]


def is_label(value, label):
    """Whether the value is the list of the states of the label."""
    if not isinstance(value, list) or not all(is_whole(state) for state in value):
        return False
    return value == list(label)
