"""Tests of lagbound.onlyone: points [4] to [8] and [35] to [38]."""

import copy

from lagbound.errors import Mismatch, TooLarge
from lagbound.machines import Machine
from lagbound.onlyone import (clash, clash_bound, is_one_lag, is_two_words, one_lag_table, tells_one, two_words)
from machine_samples import machine_for_judging, random_machine, variants
from pair_samples import (all_meeting, all_pairs, all_steps, first_clash, forked_machine, lockstep_machine, pair_machine,
                          parts, really_one_lag, told_list)
from support import HUGE, NO_TEXTS, Case, same, seeded, words_up_to
from test_square import PAIRS, STEPS, fan, loops

FILLERS = (True, False, None, 0, 1, 2, -1, HUGE, "", "a", "x", "y", "xy", "c", [], (), (0, 0, "", ""), [(0, 0, "", "")])
PLAIN = NO_TEXTS + ("", "a", (0, 0, "", ""), [(0, 0, "", "")], [(0, 0, "")], [(0, 0, "", "", "")], [[0, 0, "", ""]],
                    ("", "", "x"), ("a", "x"), ["a", "x", "y"], ("a", "x", "y", "z"))


def rings(first, second, one="x", two="xx"):
    """A machine of two rings; over words of `first` letters and of `second` letters they come to their ends."""
    arcs = [(state, "a", one, (state + 1) % first) for state in range(first)]
    arcs += [(first + state, "a", two, first + (state + 1) % second) for state in range(second)]
    return Machine("a", "xy", first + second, begins=[(0, ""), (first, "")], arcs=arcs, ends=[(0, ""), (first, "")])


def some_pairs(number, count):
    """Pairs of small machines: some tell one word, some do not, some tell the same as each other."""
    source = seeded(number)
    for at in range(count):
        make = (pair_machine, lockstep_machine, random_machine, lambda told, **_: forked_machine(told))[at % 4]
        first = make(source, most=2)
        second = make(source, most=2)
        # Beside a machine with a part of its own entries there are many common words.
        part = Machine("ab", "xy", first.size, begins=first.begins, arcs=[arc for arc in first.arcs if source.random() < 0.8],
                       ends=first.ends)
        yield first, source.choice((second, part, part))


def short_bound(machine, other):
    """The length of words up to which all clashes are looked for, and whether this is far enough."""
    bound = max(2 * len(all_meeting(machine, other, all_pairs(machine, other))) - 1, 0)
    return bound, min(bound, 7), bound <= 7


class Clash(Case):
    """Points [35] and [37]."""

    def check(self, machine, beside, **named):
        bound, most, far = short_bound(machine, beside)
        self.same(clash_bound(machine, **named), bound)
        word = clash(machine, **named)
        expected = first_clash(machine, beside, most)
        if expected is not None or far:
            self.same(word, expected)
        else:
            self.assertTrue(word is None or most < len(word) <= bound)
        return word

    def test_alone(self):
        found = [self.check(machine, machine) for machine, _ in some_pairs(141, 200)]
        self.assertGreater(sum(word is None for word in found), 40)
        self.assertGreater(len(set(found)), 5)

    def test_beside_another_one(self):
        found = [self.check(machine, other, other=other) for machine, other in some_pairs(142, 200)]
        self.assertGreater(sum(word is None for word in found), 40)
        self.assertGreater(len(set(found)), 5)

    def test_one_letter_alphabets(self):
        source = seeded(143)
        for _ in range(150):
            machine = pair_machine(source, read="a", write="x", most=3, arcs=1, words=("", "x", "xx"))
            bound = max(2 * len(all_meeting(machine, machine, all_pairs(machine, machine))) - 1, 0)
            self.same(clash(machine), first_clash(machine, machine, bound))

    def test_itself_as_the_other(self):
        for machine, _ in some_pairs(144, 40):
            self.same(clash(machine, other=machine), clash(machine))
            self.same(clash_bound(machine, other=machine), clash_bound(machine))
            self.same(one_lag_table(machine, other=machine), one_lag_table(machine))

    def test_words_that_one_of_them_does_not_take(self):
        first = Machine("ab", "xy", 1, begins=[(0, "")], arcs=[(0, "a", "x", 0)], ends=[(0, "")])
        second = Machine("ab", "xy", 1, begins=[(0, "")], arcs=[(0, "b", "y", 0)], ends=[(0, "")])
        self.assertIsNone(clash(first, other=second))
        self.same(clash_bound(first, other=second), 1)
        third = Machine("ab", "xy", 1, begins=[(0, "")], arcs=[(0, "b", "y", 0), (0, "a", "y", 0)], ends=[(0, "")])
        self.same(clash(first, other=third), "a")

    def test_machines_that_tell_two_words_each(self):
        # Each of them tells x and y for the empty word, so the two clash, although they tell the same.
        machine = Machine("a", "xy", 1, begins=[(0, "x"), (0, "y")], ends=[(0, "")])
        self.same((clash(machine), clash(machine, other=machine)), ("", ""))
        self.same(two_words(machine), ("", "x", "y"))

    def test_clashes_of_begins_arcs_and_ends(self):
        for named in ({"begins": [(0, ""), (0, "x")], "ends": [(0, "")]}, {"begins": [(0, "")], "ends": [(0, ""), (0, "x")]},
                      {"begins": [(0, ""), (1, "x")], "ends": [(0, ""), (1, "")]}):
            self.same(clash(Machine("ab", "xy", 2, **named)), "")
        arcs = [(0, "b", "x", 1), (0, "b", "y", 1), (0, "a", "x", 1)]
        self.same(clash(Machine("ab", "xy", 2, begins=[(0, "")], arcs=arcs, ends=[(1, "")])), "b")

    def test_the_least_one_of_equal_length(self):
        arcs = [(0, "b", "x", 1), (0, "a", "x", 2), (1, "a", "x", 3), (1, "a", "y", 3), (2, "b", "x", 3), (2, "b", "y", 3)]
        machine = Machine("ab", "xy", 4, begins=[(0, "")], arcs=arcs, ends=[(3, "")])
        self.same(clash(machine), "ab")
        # Here the lesser word goes through the greater states.
        arcs = [(0, "b", "x", 1), (0, "a", "x", 2), (1, "b", "x", 3), (1, "b", "y", 3), (2, "b", "x", 4), (2, "b", "y", 4)]
        machine = Machine("ab", "xy", 5, begins=[(0, "")], arcs=arcs, ends=[(3, ""), (4, "")])
        self.same(clash(machine), "ab")

    def test_two_states_reached_by_one_word(self):
        # Over a there are two states; the clash over aa goes on from the second one, the one over ab from the first.
        arcs = [(0, "a", "", 1), (0, "a", "", 2), (1, "b", "x", 3), (1, "b", "y", 3), (2, "a", "x", 3), (2, "a", "y", 3)]
        machine = Machine("ab", "xy", 4, begins=[(0, "")], arcs=arcs, ends=[(3, "")])
        self.same(clash(machine), "aa")

    def test_lags_that_are_made_up_later(self):
        arcs = [(0, "a", "x", 1), (0, "a", "xyx", 2), (1, "a", "yx", 3), (2, "a", "", 3)]
        machine = Machine("a", "xy", 4, begins=[(0, "")], arcs=arcs, ends=[(3, "")])
        self.assertIsNone(clash(machine))
        self.same(one_lag_table(machine), [
            (0, 0, "", ""), (1, 1, "", ""), (1, 2, "", "yx"), (2, 1, "yx", ""), (2, 2, "", ""), (3, 3, "", "")])

    def test_clashes_of_many_letters(self):
        for first, second in ((2, 3), (5, 7), (12, 13), (20, 19)):
            machine = rings(first, second)
            word = "a" * (first * second)
            self.same(clash(machine), word)
            self.assertLessEqual(len(word), clash_bound(machine))
            self.same(two_words(machine), (word, "x" * len(word), "x" * (2 * len(word))))
            self.assertIsNone(clash(rings(first, second, "x", "x")))

    def test_the_longest_clashes(self):
        # 1560 pairs; lags of up to 600000 letters.
        first = Machine("a", "xy", 40, begins=[(0, "")], arcs=[(at, "a", "x" * 400, (at + 1) % 40) for at in range(40)],
                        ends=[(39, "")])
        second = Machine("a", "xy", 39, begins=[(0, "")], arcs=[(at, "a", "", (at + 1) % 39) for at in range(39)],
                         ends=[(38, "")])
        self.same(clash(first, other=second), "a" * 1559)
        self.same(clash_bound(first, other=second), 3119)

    def test_more_lags_than_can_be_listed(self):
        # Over the one word that both take there are 2 ** 60 lags.
        arcs = [(level, "a", word, level + 1) for level in range(60) for word in "xy"]
        machine = Machine("a", "xy", 61, begins=[(0, "")], arcs=arcs, ends=[(60, "")])
        silent = Machine("a", "xy", 61, begins=[(0, "")], ends=[(60, "")],
                         arcs=[(level, "a", "", level + 1) for level in range(60)])
        self.same(clash(machine, other=silent), "a" * 60)
        self.same(clash(silent, other=machine), "a" * 60)
        self.same(two_words(machine), ("a" * 60, "x" * 60, "x" * 59 + "y"))
        self.assertIsNone(clash(silent))

    def test_the_bound(self):
        self.same(clash_bound(Machine("a", "x", 0)), 0)
        self.same(clash_bound(Machine("a", "x", 1, begins=[(0, "")])), 0)
        self.same(clash_bound(Machine("a", "x", 1, begins=[(0, "")], ends=[(0, "")])), 1)
        self.same(clash_bound(fan(40)), 3199)
        # Twin pairs that do not meet do not count.
        arcs = [(0, "a", "", 1), (0, "a", "", 2), (1, "a", "", 3), (2, "b", "", 3)]
        self.same(clash_bound(Machine("ab", "xy", 4, begins=[(0, "")], arcs=arcs, ends=[(3, "")])), 7)

    def test_machines_that_take_nothing(self):
        none, some = Machine("ab", "xy", 0), machine_for_judging()
        for machine, other in ((none, none), (none, some), (some, none), (none, None)):
            self.assertIsNone(clash(machine, other=other))
            self.same(one_lag_table(machine, other=other), [])
            self.same(clash_bound(machine, other=other), 0)
            self.assertIs(is_one_lag(machine, [], other=other), True)
            self.assertIs(is_one_lag(machine, [(0, 0, "", "")], other=other), False)
        self.assertIsNone(two_words(none))


class OneLag(Case):
    """Points [8] and [36]."""

    def test_tables(self):
        tables = 0
        for machine, other in some_pairs(145, 200):
            for mate in (machine, other):
                table = one_lag_table(machine, other=mate)
                self.assertIs(table is None, clash(machine, other=mate) is not None)
                if table is not None:
                    meeting = all_meeting(machine, mate, all_pairs(machine, mate))
                    steps = all_steps(machine, mate, meeting)
                    self.assertTrue(really_one_lag(machine, mate, meeting, steps, table))
                    self.assertIs(is_one_lag(machine, table, other=mate), True)
                    if mate is machine:
                        self.assertIs(is_one_lag(machine, table), True)
                    tables += bool(table)
        self.assertGreater(tables, 60)

    def wrong_at_a_single_place(self, machine, **named):
        table = one_lag_table(machine, **named)
        count = 0
        for paper in variants(table, FILLERS):
            self.assertIs(is_one_lag(machine, paper, **named), same(paper, table), paper)
            count += 1
        self.assertIs(is_one_lag(machine, table, **named), True)
        return count

    def test_wrong_at_a_single_place(self):
        arcs = [(0, "a", "x", 1), (0, "a", "", 2), (1, "b", "", 0), (2, "b", "x", 0)]
        machine = Machine("ab", "xy", 3, begins=[(0, "y")], arcs=arcs, ends=[(0, "")])
        self.same(one_lag_table(machine), [
            (0, 0, "", ""), (1, 1, "", ""), (1, 2, "x", ""), (2, 1, "", "x"), (2, 2, "", "")])
        self.assertGreater(self.wrong_at_a_single_place(machine), 300)
        source, count = seeded(146), 0
        while count < 3000:
            machine = lockstep_machine(source, most=3)
            if one_lag_table(machine):
                count += self.wrong_at_a_single_place(machine)

    def test_wrong_at_a_single_place_beside_another_one(self):
        first = Machine("a", "xy", 1, begins=[(0, "x")], arcs=[(0, "a", "yx", 0)], ends=[(0, "yy")])
        second = Machine("a", "xy", 1, begins=[(0, "xy")], arcs=[(0, "a", "xy", 0)], ends=[(0, "y")])
        self.same(one_lag_table(first, other=second), [(0, 0, "", "y")])
        self.same(one_lag_table(second, other=first), [(0, 0, "y", "")])
        self.wrong_at_a_single_place(first, other=second)

    def test_begins_steps_and_ends_are_looked_at(self):
        told = {"begins": [(0, "x")], "arcs": [(0, "a", "x", 0)], "ends": [(0, "x")]}
        first = Machine("a", "xy", 1, **told)
        table = [(0, 0, "", "")]
        self.assertIs(is_one_lag(first, table, other=first), True)
        for wrong in ({"begins": [(0, "y")]}, {"begins": [(0, "x"), (0, "xx")]}, {"arcs": [(0, "a", "y", 0)]},
                      {"arcs": [(0, "a", "x", 0), (0, "a", "xx", 0)]}, {"ends": [(0, "y")]}, {"ends": [(0, "x"), (0, "")]}):
            other = Machine("a", "xy", 1, **{**told, **wrong})
            self.assertIs(is_one_lag(first, table, other=other), False)
            self.assertIs(is_one_lag(other, table, other=first), False)
            self.assertIsNone(one_lag_table(other, other=first))

    def test_lags_with_two_sides(self):
        # The sides x and y can never be made up for.
        machine = Machine("a", "xy", 2, begins=[(0, "x"), (1, "y")], ends=[(0, ""), (1, "")])
        table = [(0, 0, "", ""), (0, 1, "x", "y"), (1, 0, "y", "x"), (1, 1, "", "")]
        self.assertIs(is_one_lag(machine, table), False)

    def test_any_plain_value(self):
        for machine in (machine_for_judging(), Machine("a", "x", 0), Machine("a", "x", 1, begins=[(0, "")], ends=[(0, "")])):
            right = one_lag_table(machine)
            for value in PLAIN:
                self.assertIs(is_one_lag(machine, value), right is not None and same(value, right))

    def test_mismatch_is_false(self):
        table = [(0, 0, "", "")]
        machine = Machine("ab", "xy", 1, begins=[(0, "")], ends=[(0, "")])
        self.assertIs(is_one_lag(machine, table), True)
        for read, write in (("a", "xy"), ("ab", "x"), ("abc", "xy"), ("ab", "wx")):
            other = Machine(read, write, 1, begins=[(0, "")], ends=[(0, "")])
            self.assertIs(is_one_lag(machine, table, other=other), False)
            self.assertIs(is_one_lag(fan(64), table, other=other), False)
            self.assertIs(is_one_lag(other, table, other=fan(64)), False)
            for function in (clash, clash_bound, one_lag_table):
                self.fails(Mismatch, {}, function, fan(64), other=other)

    def test_tables_stay(self):
        machine = machine_for_judging()
        table = [(0, 0, "", ""), [1]]
        before = copy.deepcopy(table)
        is_one_lag(machine, table)
        self.same(table, before)


class TwoWords(Case):
    """Points [8] and [38]."""

    def test_papers(self):
        papers = 0
        for machine, _ in some_pairs(147, 200):
            paper = two_words(machine)
            self.assertIs(tells_one(machine), paper is None)
            self.assertIs(paper is None, clash(machine) is None)
            if paper is not None:
                papers += 1
                word, first, second = paper
                self.same(word, clash(machine))
                self.same([first, second], told_list(machine, word)[:2])
                self.assertIs(type(paper), tuple)
                self.assertIs(is_two_words(machine, paper), True)
        self.assertGreater(papers, 40)

    def test_several_courses_that_tell_the_same(self):
        arcs = [(0, "a", "x", 1), (0, "a", "xx", 2)]
        machine = Machine("a", "x", 3, begins=[(0, "")], arcs=arcs, ends=[(1, "x"), (2, "")])
        self.assertIsNone(two_words(machine))
        self.assertIs(tells_one(machine), True)

    def test_the_two_least_told_words(self):
        ends = [(0, word) for word in ("yy", "xyx", "yx", "y", "xy")]
        self.same(two_words(Machine("a", "xy", 1, begins=[(0, "x")], ends=ends)), ("", "xy", "xxy"))

    def test_right_ones_that_are_not_the_least(self):
        machine = machine_for_judging()
        for word in words_up_to("ab", 3):
            told = told_list(machine, word)
            for at, first in enumerate(told):
                for second in told[at:]:
                    self.assertIs(is_two_words(machine, (word, first, second)), first != second)
                    self.assertIs(is_two_words(machine, (word, second, first)), False)

    def test_wrong_at_a_single_place(self):
        machine = machine_for_judging()
        told = {word: told_list(machine, word) for word in words_up_to("ab", 4)}

        def right(paper):
            if type(paper) is not tuple or len(paper) != 3 or type(paper[0]) is not str or paper[0] not in told:
                return False
            rows = told[paper[0]]
            return all(word in rows for word in paper[1:]) and rows.index(paper[1]) < rows.index(paper[2])

        papers = [(word, rows[at], rows[-1]) for word, rows in told.items() for at in range(len(rows) - 1)]
        count = 0
        for paper in papers[:40]:
            self.assertIs(is_two_words(machine, paper), True)
            for other in variants(paper, FILLERS + ("ab", "xx", "yy", "xxx", "aab")):
                self.assertIs(is_two_words(machine, other), right(other), other)
                count += not right(other)
        self.assertGreater(count, 1000)

    def test_any_plain_value(self):
        for machine in (machine_for_judging(), Machine("a", "x", 0)):
            for value in PLAIN + (("", "", ""), ("a", None, None), ("c", "x", "xx"), ("a", "x", "xz"), (None, "x", "y")):
                self.assertIs(is_two_words(machine, value), False)

    def test_words_of_any_length(self):
        machine = Machine("a", "x", 1, begins=[(0, "")], arcs=[(0, "a", "x", 0), (0, "a", "xx", 0)], ends=[(0, "")])
        for first, second, right in ((5000, 10000, True), (5001, 7000, True), (4999, 10000, False), (5000, 10001, False)):
            self.assertIs(is_two_words(machine, ("a" * 5000, "x" * first, "x" * second)), right)

    def test_twin_pairs_are_not_needed_by_the_judge(self):
        machine = fan(64, [(0, "a", "x" * size, 0) for size in range(100)])
        self.assertIs(is_two_words(machine, ("a", "", "x")), True)
        self.assertIs(is_two_words(machine, ("a", "x", "")), False)
        self.fails(TooLarge, PAIRS, two_words, machine)

    def test_fresh(self):
        machine = Machine("ab", "xy", 1, begins=[(0, "")], arcs=[(0, "a", "x", 0)], ends=[(0, "")])
        before = parts(machine)
        self.fresh(lambda: one_lag_table(machine))
        self.fresh(lambda: two_words(machine_for_judging()))
        self.same(parts(machine), before)


class Limits(Case):
    """Points [6], [7] and [32]."""

    def test_twin_pairs_are_needed(self):
        functions = (clash, clash_bound, one_lag_table, two_words, tells_one, lambda told, **named: is_one_lag(told, 7, **named))
        for function in functions:
            self.fails(TooLarge, PAIRS, function, fan(40, [(0, "a", "", 40)], 1))
            self.fails(TooLarge, PAIRS, function, fan(41, [(0, "a", "x" * size, 0) for size in range(64)]))
            self.fails(TooLarge, STEPS, function, loops(64))
        more = [(0, "b", "", 0)]
        for function in functions[:3] + functions[-1:]:
            self.fails(TooLarge, PAIRS, function, fan(41), other=fan(40))
            self.fails(TooLarge, STEPS, function, loops(40, more), other=loops(100, more))

    def test_at_the_limit(self):
        self.assertIsNone(clash(fan(40)))
        self.same(len(one_lag_table(fan(40))), 1600)
        self.assertIs(is_one_lag(fan(40), one_lag_table(fan(40))), True)
        self.same(clash(loops(40), other=loops(100)), "a")
        self.same(clash_bound(loops(40), other=loops(100)), 1)
