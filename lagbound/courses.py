"""Ways and courses of machines: judging, reading, counting and listing them."""

from lagbound.checks import check_number
from lagbound.machines import is_arc, is_pair
from lagbound.stepping import arcs_by_letter, entries_by_state, labels_over
from lagbound.words import check_word

MAX_COURSES = 200


def is_way(machine, paper):
    """Whether the paper is a way of the machine."""
    if not isinstance(paper, tuple) or len(paper) != 2:
        return False
    begin, arcs = paper
    if not isinstance(arcs, list) or not is_pair(begin, machine.write, machine.size) or begin not in machine.begins:
        return False
    known = {arc: True for arc in machine.arcs}
    state = begin[0]
    for arc in arcs:
        # The form comes first: a flag for a state would pass as equal.
        if not is_arc(arc, machine.read, machine.write, machine.size) or arc not in known or arc[0] != state:
            return False
        state = arc[3]
    return True


def is_course(machine, paper):
    """Whether the paper is a course of the machine."""
    if not isinstance(paper, tuple) or len(paper) != 3 or not is_way(machine, paper[:2]):
        return False
    end = paper[2]
    if not is_pair(end, machine.write, machine.size) or end not in machine.ends:
        return False
    return end[0] == last_state(paper)


def last_state(way):
    """The state in which the arcs of a way or a course come to an end."""
    begin = way[0]
    arcs = way[1]
    return arcs[-1][3] if arcs else begin[0]


def read_of(course):
    """What a way or a course reads."""
    return "".join([arc[1] for arc in course[1]])


def told_of(course):
    """What a way writes, or what a course tells."""
    words = [course[0][1]] + [arc[2] for arc in course[1]]
    if len(course) == 3:
        words.append(course[2][1])
    return "".join(words)


def course_count(machine, word):
    """The number of courses that read the word."""
    check_word(machine.read, word)
    arcs = arcs_by_letter(machine)
    counts = {state: len(pairs) for state, pairs in entries_by_state(machine.begins).items()}
    for letter in word:
        counts = counts_on(counts, arcs[letter])
    return sum([counts.get(end[0], 0) for end in machine.ends])


def counts_on(counts, arcs):
    """For each state the number of ways to it after one more letter, which the arcs read."""
    fresh = {}
    for state, count in counts.items():
        for arc in arcs.get(state, []):
            fresh[arc[3]] = fresh.get(arc[3], 0) + count
    return fresh


def courses(machine, word, *, most=50):
    """The first `most` courses that read the word, in the course order."""
    check_word(machine.read, word)
    check_number(most, 0, MAX_COURSES)
    labels = labels_over(machine, word)
    arcs = arcs_by_letter(machine)
    begins = [begin for begin in machine.begins if begin[0] in labels[0]]
    rows = [[(0, begin) for begin in begins[:most]]]
    for at, letter in enumerate(word):
        rows.append(longer_row(rows[-1], arcs[letter], labels[at + 1], most))
    rows.append(longer_row(rows[-1], entries_by_state(machine.ends), labels[-1], most))
    return [course_at(rows, at) for at in range(len(rows[-1]))]


def longer_row(row, entries, label, most):
    """The first `most` ways that are one entry longer than those of the row.

    A row has for each way its number in the row before, and its last entry.
    Each way of a row can be completed to a course; therefore the first `most`
    courses begin with ways among the first `most` of each row.
    """
    longer = []
    for before, (_, entry) in enumerate(row):
        for more in entries.get(state_behind(entry), []):
            if state_behind(more) in label:
                longer.append((before, more))
        if len(longer) >= most:
            return longer[:most]
    return longer


def state_behind(entry):
    """The state in which an arc leaves a way, or the state of a begin or an end."""
    return entry[-1] if len(entry) == 4 else entry[0]


def course_at(rows, at):
    """The course that ends at a place of the last row."""
    backwards = []
    for row in reversed(rows):
        at, entry = row[at]
        backwards.append(entry)
    return backwards[-1], backwards[-2:0:-1], backwards[0]
