"""Tests of lagbound.telling: points [3] to [7], [22] and [23]."""

from lagbound.errors import BadNumber, BadWord
from lagbound.machines import Machine
from lagbound.telling import least_told, takes, tells, told_words
from machine_samples import all_told, machine_for_judging, random_machine
from support import HUGE, NO_INTEGERS, NO_TEXTS, Case, seeded, words_up_to

WRONG_WORDS = NO_TEXTS + ("c", "x", "abc", "-", "a b", "a" * 4001)


def lines(most):
    """A machine with the told words x, xx, .., of at most `most` letters, for the word a."""
    arcs = [(0, "a", "x" * size, 0) for size in range(1, most + 1)]
    return Machine("a", "x", 1, begins=[(0, "")], arcs=arcs, ends=[(0, "")])


class ToldWords(Case):
    """Points [22] and [23]."""

    def test_example(self):
        arcs = [(0, "a", "x", 1), (0, "a", "xx", 1)]
        machine = Machine("a", "x", 2, begins=[(0, "")], arcs=arcs, ends=[(1, ""), (1, "x")])
        self.same(told_words(machine, "a", most=2), (["x", "xx"], True))

    def test_all_of_them(self):
        source = seeded(51)
        for _ in range(150):
            machine = random_machine(source)
            for word in words_up_to("ab", 4):
                expected = all_told(machine, word)
                self.same(told_words(machine, word), (expected[:20], len(expected) > 20))
                self.same(least_told(machine, word), (expected + [None])[0])
                self.assertIs(takes(machine, word), bool(expected))
                for most in (0, 1, len(expected) - 1, len(expected), len(expected) + 1):
                    if 0 <= most <= 50:
                        self.same(told_words(machine, word, most=most), (expected[:most], len(expected) > most))

    def test_around_the_bound(self):
        for many in (49, 50, 51, 52):
            expected = ["x" * size for size in range(1, many + 1)]
            for most in (0, 1, 49, 50):
                self.same(told_words(lines(many), "a", most=most), (expected[:most], many > most))
        self.same(told_words(lines(25), "a"), (["x" * size for size in range(1, 21)], True))

    def test_one_word_by_several_courses(self):
        arcs = [(0, "a", "x", 1), (0, "a", "", 1), (0, "a", "xx", 2)]
        machine = Machine("a", "x", 3, begins=[(0, "")], arcs=arcs, ends=[(1, "x"), (1, "xx"), (2, "")])
        self.same(told_words(machine, "a", most=3), (["x", "xx", "xxx"], False))
        self.same(told_words(machine, "a", most=2), (["x", "xx"], True))

    def test_the_word_order(self):
        words = ["yy", "x", "xy", "y", "", "yx"]
        machine = Machine("a", "xy", 1, begins=[(0, word) for word in words], ends=[(0, "")])
        self.same(told_words(machine, "", most=6), (["", "x", "y", "xy", "yx", "yy"], False))

    def test_dead_ends_hold_no_place(self):
        arcs = [(0, "a", "", 1), (0, "a", "x", 1), (0, "a", "xxx", 0)]
        machine = Machine("a", "x", 2, begins=[(0, "")], arcs=arcs, ends=[(0, "")])
        self.same(told_words(machine, "aa", most=1), (["x" * 6], False))

    def test_with_most_0(self):
        machine = Machine("a", "x", 1, begins=[(0, "")], ends=[(0, "")])
        self.same(told_words(machine, "", most=0), ([], True))
        self.same(told_words(machine, "a", most=0), ([], False))

    def test_long_read_words(self):
        arcs = [(0, "a", "x", 0), (0, "a", "y", 0), (0, "a", "xx", 0)]
        machine = Machine("a", "xy", 1, begins=[(0, "")], arcs=arcs, ends=[(0, "")])
        words, more = told_words(machine, "a" * 4000, most=50)
        tails = ["".join("xy"[number >> place & 1] for place in (5, 4, 3, 2, 1, 0)) for number in range(50)]
        self.same((words, more), (["x" * 3994 + tail for tail in tails], True))
        self.same(least_told(machine, "a" * 4000), "x" * 4000)
        self.assertIs(takes(machine, "a" * 4000), True)

    def test_long_words_that_stay_apart(self):
        arcs = [(0, "a", "x", 0), (1, "a", "y", 1), (2, "a", "yy", 2)]
        pairs = [(state, "") for state in range(3)]
        machine = Machine("a", "xy", 3, begins=pairs, arcs=arcs, ends=pairs)
        self.same(told_words(machine, "a" * 4000), (["x" * 4000, "y" * 4000, "y" * 8000], False))

    def test_nothing_is_taken(self):
        for machine in (Machine("a", "x", 0), Machine("a", "x", 1, begins=[(0, "")]), Machine("a", "x", 1, ends=[(0, "")])):
            for word in ("", "aa"):
                self.same(told_words(machine, word), ([], False))
                self.assertIsNone(least_told(machine, word))
                self.assertIs(takes(machine, word), False)
                self.assertIs(tells(machine, word, ""), False)

    def test_wrong_words(self):
        machine = machine_for_judging()
        for value in WRONG_WORDS:
            for function in (told_words, least_told, takes):
                self.fails_with(BadWord, value, function, machine, value)
            self.fails_with(BadWord, value, told_words, machine, value, most=51)
            self.fails_with(BadWord, value, tells, machine, value, None)

    def test_wrong_bounds(self):
        machine = machine_for_judging()
        for value in NO_INTEGERS + (-1, 51, HUGE, -HUGE):
            self.fails_with(BadNumber, value, told_words, machine, "a", most=value)

    def test_fresh(self):
        machine = machine_for_judging()
        self.fresh(lambda: told_words(machine, "aab"))


class Tells(Case):
    """Point [22]."""

    def test_told_and_nearly_told(self):
        source = seeded(52)
        candidates = words_up_to("xy", 6)
        for _ in range(60):
            machine = random_machine(source)
            for word in words_up_to("ab", 3):
                expected = all_told(machine, word)
                for told in candidates:
                    self.assertIs(tells(machine, word, told), told in expected)
                for told in expected:
                    self.assertIs(tells(machine, word, told), True)
                    for near in (told + "x", told + "y", told[1:], told[:-1], told + told + "x"):
                        self.assertIs(tells(machine, word, near), near in expected)

    def test_many_told_words(self):
        machine = Machine("a", "xy", 1, begins=[(0, "")], arcs=[(0, "a", "x", 0), (0, "a", "yx", 0)], ends=[(0, "y")])
        told = "xyx" * 1000 + "x" * 2000
        self.assertIs(tells(machine, "a" * 4000, told + "y"), True)
        for near in (told, told + "x", told[1:] + "y", told[:-1] + "y", told + "yy", "x" + told + "y"):
            self.assertIs(tells(machine, "a" * 4000, near), False)

    def test_long_told_words(self):
        word = "xy" * 200
        machine = Machine("a", "xy", 1, begins=[(0, "")], arcs=[(0, "a", word, 0)], ends=[(0, ""), (0, "x")])
        self.assertIs(tells(machine, "a" * 4000, word * 4000), True)
        self.assertIs(tells(machine, "a" * 4000, word * 4000 + "x"), True)
        self.assertIs(tells(machine, "a" * 4000, word * 4000 + "y"), False)
        self.assertIs(tells(machine, "a" * 11, word * 12), False)

    def test_longer_than_any_told_word(self):
        machine = Machine("a", "x", 1, begins=[(0, "")], arcs=[(0, "a", "x", 0)], ends=[(0, "")])
        self.assertIs(tells(machine, "a" * 100, "x" * 4001), False)
        self.assertIs(tells(machine, "a" * 100, "x" * 1000000), False)

    def test_without_written_letters(self):
        machine = Machine("a", "x", 1, begins=[(0, "")], arcs=[(0, "a", "", 0)], ends=[(0, "")])
        self.assertIs(tells(machine, "a" * 4000, ""), True)
        self.assertIs(tells(machine, "", "x"), False)

    def test_no_words(self):
        machine = machine_for_judging()
        for value in NO_TEXTS + ("a", "xya", "-", "x y", "x" * 5000 + "z"):
            self.fails_with(BadWord, value, tells, machine, "a", value)
