"""Tests of lagbound.twopass: points [4] to [8] and [68] to [70]."""

from lagbound.errors import BadWord, TooLarge
from lagbound.machines import Machine
from lagbound.twopass import TwoPass, is_pass_paper, pass_paper
from machine_samples import all_courses, machine_for_judging, random_machine, variants
from pair_samples import forked_machine, lockstep_machine, parts
from support import HUGE, NO_TEXTS, Case, same, seeded, words_up_to
from test_growth import FORK

LABELS = {"what": "labels", "limit": 256}


def label_by(machine, word):
    """Point [68]: the states from which arcs can read the word and come to a state with an end."""
    states = {end[0] for end in machine.ends}
    for letter in reversed(word):
        states = {arc[0] for arc in machine.arcs if arc[1] == letter and arc[3] in states}
    return sorted(states)


def labels_by(machine):
    """Point [69]: the labels by number and the rows."""
    found, words, rows = [label_by(machine, "")], [""], []
    for word in words:
        row = []
        for letter in machine.read:
            label = label_by(machine, letter + word)
            if label not in found:
                found.append(label)
                words.append(letter + word)
            row.append(found.index(label))
        rows.append(row)
    return found, rows


def paper_by(machine, word):
    """Point [70], with the first course in the course order."""
    courses = all_courses(machine, word)
    return [label_by(machine, word[at:]) for at in range(len(word) + 1)], courses[0] if courses else None


def subset_machine(places, more=()):
    """A machine whose labels are all subsets of so many states: one letter turns the round, two change its first state."""
    arcs = [(state, "a", "", (state + 1) % places) for state in range(places)]
    arcs += [(state, "b", "", state) for state in range(1, places)]
    arcs += [(state, "c", "", state) for state in range(places)] + [(0, "c", "", 1)]
    return Machine("abc", "x", places + len(more), begins=[(0, "")], arcs=arcs + list(more), ends=[(0, "")])


class Labels(Case):
    """Points [68] and [69]."""

    def test_random_machines(self):
        source = seeded(271)
        many = 0
        for at in range(200):
            machine = random_machine(source) if at % 2 else lockstep_machine(source, read="abc")
            two_pass = TwoPass(machine)
            labels, rows = labels_by(machine)
            self.same(two_pass.labels, labels)
            self.same(two_pass.rows, rows)
            for word in words_up_to(machine.read, 3):
                numbers = two_pass.labels_of(word)
                self.same([labels[number] for number in numbers], paper_by(machine, word)[0])
                self.same(numbers[-1], 0)
            many += len(labels) > 4
        self.assertGreater(many, 20)

    def test_edges(self):
        none = TwoPass(Machine("ab", "x", 0))
        self.same((none.labels, none.rows, none.labels_of("ab")), ([[]], [[0, 0]], [0, 0, 0]))
        # A state that is not useful is in a label, too; the empty label is found second.
        machine = Machine("ab", "x", 3, begins=[(0, "")], arcs=[(1, "b", "", 2)], ends=[(2, ""), (0, "x"), (2, "x")])
        two_pass = TwoPass(machine)
        self.same((two_pass.labels, two_pass.rows), ([[0, 2], [], [1]], [[1, 2], [1, 1], [1, 1]]))
        # Without states that lead nowhere no label is empty.
        self.same(TwoPass(Machine("a", "x", 1, arcs=[(0, "a", "", 0)], ends=[(0, "")])).labels, [[0]])
        self.same(TwoPass(Machine("a", "x", 2, arcs=[(0, "a", "", 0)], begins=[(1, "")])).labels, [[]])

    def test_256_and_257_labels(self):
        machine = subset_machine(8)
        labels, rows = labels_by(machine)
        self.same(len(labels), 256)
        self.same((TwoPass(machine).labels, TwoPass(machine).rows), (labels, rows))
        # One more state, which can end after d alone.
        arcs = machine.arcs + [(8, "d", "", 0)]
        more = Machine("abcd", "x", 9, begins=[(0, "")], arcs=arcs, ends=[(0, "")])
        self.same(len(labels_by(more)[0]), 257)
        self.fails(TooLarge, LABELS, TwoPass, more)
        self.fails(TooLarge, LABELS, TwoPass, subset_machine(9))
        self.assertIs(is_pass_paper(more, "dab", paper_by(more, "dab")), True)
        word = "abc" * 200
        self.assertIs(is_pass_paper(subset_machine(9), "a", paper_by(subset_machine(9), "a")), True)
        self.assertIs(is_pass_paper(subset_machine(12), word, None), False)

    def test_fresh(self):
        two_pass = TwoPass(machine_for_judging())
        self.fresh(lambda: two_pass.labels)
        self.fresh(lambda: two_pass.rows)
        self.fresh(lambda: two_pass.labels_of("ab"))


class Courses(Case):
    """Points [68] and [70]."""

    def test_the_first_course(self):
        source = seeded(272)
        found = {True: 0, False: 0}
        for at in range(150):
            machine = (random_machine, lockstep_machine, forked_machine)[at % 3](source)
            two_pass = TwoPass(machine)
            for word in words_up_to(machine.read, 4):
                labels, course = paper_by(machine, word)
                self.same(two_pass.course(word), course)
                self.same(pass_paper(two_pass, word), (labels, course))
                told = None
                if course is not None:
                    told = course[0][1] + "".join(arc[2] for arc in course[1]) + course[2][1]
                self.same(two_pass.tell(word), told)
                self.assertIs(is_pass_paper(machine, word, (labels, course)), True)
                found[course is None] += 1
        self.assertGreater(min(found.values()), 300)

    def test_a_machine_that_grows(self):
        two_pass = TwoPass(FORK)
        for size in (0, 1, 5, 400, 3999):
            for last, told in (("b", "x" * size), ("c", "y" + "xx" * size + "yx")):
                word = "a" * size + last
                self.same(two_pass.tell(word), told)
                self.assertIs(is_pass_paper(FORK, word, pass_paper(two_pass, word)), True)

    def test_words_of_4000_letters(self):
        machine = subset_machine(8)
        two_pass = TwoPass(machine)
        word = "abca" * 1000
        self.same(len(two_pass.labels_of(word)), 4001)
        paper = pass_paper(two_pass, word)
        self.same((len(paper[0]), len(paper[1][1])), (4001, 4000))
        self.assertIs(is_pass_paper(machine, word, paper), True)
        paper[0][3999] = paper[0][3999][1:]
        self.assertIs(is_pass_paper(machine, word, paper), False)

    def test_wrong_words(self):
        two_pass = TwoPass(machine_for_judging())
        for value in NO_TEXTS + ("x", "-", "a b", "A", "a" * 4001, "a\n"):
            for function in (two_pass.labels_of, two_pass.course, two_pass.tell):
                self.fails_with(BadWord, value, function, value)
            self.fails_with(BadWord, value, pass_paper, two_pass, value)

    def test_nothing_is_changed(self):
        machine = machine_for_judging()
        before = parts(machine)
        two_pass = TwoPass(machine)
        self.fresh(lambda: pass_paper(two_pass, "aab"))
        self.fresh(lambda: two_pass.course("aab"))
        self.same(parts(machine), before)
        self.same(pass_paper(TwoPass(machine), "aab"), pass_paper(two_pass, "aab"))


class Judging(Case):
    """Points [8] and [70]."""

    def test_wrong_at_a_single_place(self):
        fillers = (True, False, None, 0, 1, 2, -1, HUGE, "", "a", "x", "y", [], (), [0], [1], (0, ""), (0, "a", "x", 1))
        count = 0
        for machine in (machine_for_judging(), Machine("ab", "xy", 0), forked_machine(seeded(273))):
            for word in ("", "a", "b", "ab", "aab"):
                right = paper_by(machine, word)
                for paper in variants(right, fillers):
                    expected = same(paper, right)
                    self.assertIs(is_pass_paper(machine, word, paper), expected, paper)
                    count += not expected
        self.assertGreater(count, 3000)

    def test_other_courses_are_wrong(self):
        machine = machine_for_judging()
        several = 0
        for word in words_up_to("ab", 4):
            labels = paper_by(machine, word)[0]
            for at, course in enumerate(all_courses(machine, word)):
                self.assertIs(is_pass_paper(machine, word, (labels, course)), at == 0)
                several += at > 0
            self.assertIs(is_pass_paper(machine, word, (labels, None)), not all_courses(machine, word))
        self.assertGreater(several, 20)

    def test_words_of_any_kind_and_length(self):
        machine = Machine("a", "x", 1, begins=[(0, "")], arcs=[(0, "a", "", 0)], ends=[(0, "")])
        word = "a" * 6000
        paper = [[0] for _ in range(6001)], ((0, ""), [(0, "a", "", 0)] * 6000, (0, ""))
        self.assertIs(is_pass_paper(machine, word, paper), True)
        self.assertIs(is_pass_paper(machine, word + "a", paper), False)
        right = ([[0]], ((0, ""), [], (0, "")))
        self.assertIs(is_pass_paper(machine, "", right), True)
        for value in NO_TEXTS + ("b", "-", "A", "a\n", ("",), [""]):
            self.assertIs(is_pass_paper(machine, value, right), False)
            self.assertIs(is_pass_paper(machine, value, value), False)
        for paper in NO_TEXTS + ("", [[[0]], right[1]], ([[0]],), ([[0]], right[1], None), ([(0,)], right[1]), (([0],), right[1]),
                                 ([[False]], right[1]), ([[0, 0]], right[1]), ([], right[1]), ([[0]], None), ([[0]], False)):
            self.assertIs(is_pass_paper(machine, "", paper), False, paper)
