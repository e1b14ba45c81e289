"""Tests of lagbound.courses: points [3] to [8], [20] and [21]."""

from lagbound.courses import course_count, courses, is_course, is_way, read_of, told_of
from lagbound.errors import BadNumber, BadWord
from lagbound.machines import Machine
from machine_samples import all_courses, machine_for_judging, random_machine, really_course, really_way, variants
from support import HUGE, NO_INTEGERS, NO_TEXTS, Case, seeded, words_up_to

FILLERS = (True, False, None, 0, 1, 2, -1, HUGE, "", "a", "b", "x", "xy", "c", [], (), [0], (0, ""), [(0, "a", "", 0)])
WRONG_WORDS = NO_TEXTS + ("c", "x", "abc", "-", "a b", "a" * 4001)


class Judging(Case):
    """Points [8] and [20]."""

    def right_courses(self, machine):
        return [course for word in words_up_to("ab", 3) for course in all_courses(machine, word)]

    def test_right_ones(self):
        machine = machine_for_judging()
        for course in self.right_courses(machine):
            self.assertIs(is_course(machine, course), True)
            self.assertIs(is_way(machine, course[:2]), True)
            self.assertIs(is_course(machine, course[:2]), False)
            self.assertIs(is_way(machine, course), False)

    def test_wrong_at_a_single_place(self):
        machine = machine_for_judging()
        wrong = 0
        for course in self.right_courses(machine)[:60]:
            for paper in variants(course, FILLERS):
                self.assertIs(is_course(machine, paper), really_course(machine, paper), paper)
                wrong += not really_course(machine, paper)
            for paper in variants(course[:2], FILLERS):
                self.assertIs(is_way(machine, paper), really_way(machine, paper), paper)
        self.assertGreater(wrong, 1000)

    def test_any_plain_value(self):
        for machine in (machine_for_judging(), Machine("a", "x", 0)):
            for value in NO_TEXTS + ("", "a", ((0, ""),), (None, None), ([], []), ((0, ""), [None]), ((0, ""), [], None)):
                self.assertIs(is_way(machine, value), False)
                self.assertIs(is_course(machine, value), False)

    def test_flags_are_no_states(self):
        machine = Machine("a", "x", 2, begins=[(0, "")], arcs=[(0, "a", "x", 1)], ends=[(1, "")])
        for paper in (((False, ""), [(0, "a", "x", 1)], (1, "")), ((0, ""), [(False, "a", "x", 1)], (1, "")),
                      ((0, ""), [(0, "a", "x", True)], (1, "")), ((0, ""), [(0, "a", "x", 1)], (True, ""))):
            self.assertIs(is_course(machine, paper), False)
        self.assertIs(is_course(machine, ((0, ""), [(0, "a", "x", 1)], (1, ""))), True)

    def test_ways_without_arcs(self):
        machine = Machine("a", "x", 2, begins=[(0, ""), (1, "x")], ends=[(1, "")])
        self.assertIs(is_way(machine, ((0, ""), [])), True)
        self.assertIs(is_course(machine, ((0, ""), [], (1, ""))), False)
        self.assertIs(is_course(machine, ((1, "x"), [], (1, ""))), True)

    def test_arcs_must_join(self):
        machine = Machine("a", "x", 2, begins=[(0, "")], arcs=[(0, "a", "", 1), (1, "a", "", 0)], ends=[(0, ""), (1, "")])
        one, back = (0, "a", "", 1), (1, "a", "", 0)
        for arcs, right in (([one, back], True), ([back], False), ([one, one], False), ([one, back, back], False)):
            self.assertIs(is_way(machine, ((0, ""), arcs)), right)

    def test_long_papers(self):
        machine = Machine("a", "x", 1, begins=[(0, "")], arcs=[(0, "a", "x", 0)], ends=[(0, "")])
        arcs = [(0, "a", "x", 0)] * 9000
        self.assertIs(is_course(machine, ((0, ""), arcs, (0, ""))), True)
        self.assertIs(is_course(machine, ((0, ""), arcs + [(0, "a", "x", False)], (0, ""))), False)

    def test_nothing_passed_changes(self):
        machine = machine_for_judging()
        arcs = [(0, "a", "x", 1)]
        paper = ((0, ""), arcs, (1, ""))
        is_course(machine, paper)
        self.same(paper, ((0, ""), [(0, "a", "x", 1)], (1, "")))
        self.assertIs(paper[1], arcs)


class ReadAndTold(Case):
    """Point [20]."""

    def test_what_they_read_and_tell(self):
        machine = machine_for_judging()
        for word in words_up_to("ab", 3):
            for course in all_courses(machine, word):
                begin, arcs, end = course
                written = begin[1] + "".join(arc[2] for arc in arcs)
                self.same((read_of(course), read_of(course[:2])), (word, word))
                self.same((told_of(course), told_of(course[:2])), (written + end[1], written))

    def test_without_arcs(self):
        self.same((read_of(((0, "x"), [])), told_of(((0, "x"), []))), ("", "x"))
        self.same(told_of(((0, "x"), [], (0, "y"))), "xy")


class Listing(Case):
    """Points [4] to [7] and [21]."""

    def test_in_the_course_order(self):
        source = seeded(41)
        for _ in range(150):
            machine = random_machine(source)
            for word in words_up_to("ab", 4):
                expected = all_courses(machine, word)
                self.same(course_count(machine, word), len(expected))
                self.same(courses(machine, word), expected[:50])
                for most in (0, 1, 2, len(expected) - 1, len(expected), len(expected) + 1):
                    if 0 <= most <= 200:
                        self.same(courses(machine, word, most=most), expected[:most])

    def test_equal_reading_and_telling(self):
        arcs = [(0, "a", "x", 1), (0, "a", "x", 2)]
        machine = Machine("a", "x", 3, begins=[(0, "")], arcs=arcs, ends=[(1, ""), (2, "")])
        self.same(course_count(machine, "a"), 2)
        self.same(courses(machine, "a"), [((0, ""), [arcs[0]], (1, "")), ((0, ""), [arcs[1]], (2, ""))])

    def test_many_courses(self):
        arcs = [(0, "a", "x" * size, 0) for size in range(10)]
        machine = Machine("a", "x", 1, begins=[(0, "")], arcs=arcs, ends=[(0, "")])
        self.same(course_count(machine, "a" * 4000), 10 ** 4000)
        self.same(len(courses(machine, "aaa")), 50)
        expected = [((0, ""), [arcs[k // 100], arcs[k // 10 % 10], arcs[k % 10]], (0, "")) for k in range(200)]
        self.same(courses(machine, "aaa", most=200), expected)

    def test_dead_ends_hold_no_place(self):
        # The first arcs in the order lead to a state from which nothing ends.
        arcs = [(0, "a", "", 0), (0, "a", "", 1), (0, "a", "x", 2), (2, "a", "", 2)]
        machine = Machine("a", "x", 3, begins=[(0, "")], arcs=arcs, ends=[(2, "")])
        self.same(courses(machine, "aa", most=1), [((0, ""), [(0, "a", "", 0), (0, "a", "x", 2)], (2, ""))])

    def test_a_course_of_4000_letters(self):
        arcs = [(0, "a", "x", 1), (1, "a", "", 0), (1, "a", "y", 0)]
        machine = Machine("a", "xy", 2, begins=[(0, "")], arcs=arcs, ends=[(0, "y")])
        first, second = courses(machine, "a" * 4000, most=2)
        self.same(first, ((0, ""), [arcs[0], arcs[1]] * 2000, (0, "y")))
        self.same(second, ((0, ""), [arcs[0], arcs[1]] * 1999 + [arcs[0], arcs[2]], (0, "y")))
        self.same((read_of(first), told_of(first)), ("a" * 4000, "x" * 2000 + "y"))
        self.assertIs(is_course(machine, second), True)
        self.same(course_count(machine, "a" * 4000), 2 ** 2000)
        self.same(course_count(machine, "a" * 3999), 0)

    def test_nothing_is_taken(self):
        for machine in (Machine("a", "x", 0), Machine("a", "x", 1, begins=[(0, "")]), Machine("a", "x", 1, ends=[(0, "")])):
            self.same((course_count(machine, ""), courses(machine, ""), courses(machine, "aa")), (0, [], []))

    def test_wrong_words(self):
        machine = machine_for_judging()
        for value in WRONG_WORDS:
            self.fails_with(BadWord, value, course_count, machine, value)
            self.fails_with(BadWord, value, courses, machine, value)
            self.fails_with(BadWord, value, courses, machine, value, most=-1)

    def test_wrong_bounds(self):
        machine = machine_for_judging()
        for value in NO_INTEGERS + (-1, 201, HUGE, -HUGE):
            self.fails_with(BadNumber, value, courses, machine, "a", most=value)

    def test_fresh(self):
        machine = machine_for_judging()
        self.fresh(lambda: courses(machine, "aab", most=200))
        self.same(machine.arcs, machine_for_judging().arcs)
