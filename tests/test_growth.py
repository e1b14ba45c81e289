"""Tests of lagbound.growth: points [4] to [8] and [39] to [44]."""

import copy

from lagbound.errors import BadNumber, Growing, TooLarge, TwoWords
from lagbound.growth import (growth, is_growth, is_lag_table, lag_bound, lag_table, pumped_lag, spread, steady)
from lagbound.machines import Machine
from lagbound.onlyone import two_words
from machine_samples import machine_for_judging, random_machine, variants
from pair_samples import (all_pairs, bound_of, entry_key, forked_machine, lag, least_ending, levels_machine,
                          lockstep_machine, machine_lags, pair_machine, parts, really_growth, really_lag_table, told_list)
from support import HUGE, NO_INTEGERS, NO_TEXTS, Case, lists_in, same, seeded, spoil
from test_onlyone import rings
from test_square import LAGS, PAIRS, STEPS, fan, loops, starts

# Two loops that write unlike much; the words that end with b and with c keep them apart.
FORK = Machine("abc", "xy", 4, begins=[(0, ""), (1, "y")], ends=[(2, ""), (3, "x")],
               arcs=[(0, "a", "x", 0), (1, "a", "xx", 1), (0, "b", "", 2), (1, "c", "y", 3)])
FORK_PAPER = (((0, ""), [(0, "a", "x", 0)]), ((1, "y"), [(1, "a", "xx", 1)]), 0)
FILLERS = (True, False, None, 0, 1, 2, -1, HUGE, "", "a", "b", "x", "xy", [], (), (0, ""), [(0, "a", "x", 0)])


def some_machines(number, count):
    source = seeded(number)
    for at in range(count):
        make = (lambda: pair_machine(source, most=3), lambda: lockstep_machine(source, most=3),
                lambda: forked_machine(source), lambda: levels_machine(source, 3),
                lambda: pair_machine(source, read="a", write="x", most=4, words=("", "x", "x", "xx")))[at % 5]
        yield make()


def growing_machines(number, count):
    """Machines that grow, each with its growth paper."""
    found = ((machine, growth(machine)) for machine in some_machines(number, count))
    return [(machine, paper) for machine, paper in found if paper is not None]


def writes(way, at, times):
    """What the way writes with its loop gone round so many times."""
    begin, arcs = way
    return begin[1] + "".join(arc[2] for arc in arcs[:at] + arcs[at:] * times)


def reads(way, at, times):
    return "".join(arc[1] for arc in way[1][:at] + way[1][at:] * times)


class Growth(Case):
    """Points [39], [40] and [42]."""

    def test_steady_or_growing(self):
        answers = []
        for machine in some_machines(151, 400):
            paper = growth(machine)
            self.assertIs(paper is None, machine_lags(machine) is not None)
            self.assertIs(steady(machine), paper is None)
            if paper is not None:
                self.assertTrue(really_growth(machine, paper), paper)
                self.assertIs(is_growth(machine, paper), True)
                self.assertLessEqual(len(paper[0][1]), 3 * len(all_pairs(machine, machine)))
            answers.append(paper is None)
        self.assertGreater(answers.count(True), 100)
        self.assertGreater(answers.count(False), 100)

    def test_machines_that_take_nothing(self):
        for machine in (Machine("a", "x", 0), Machine("a", "x", 2, begins=[(0, "")], arcs=[(0, "a", "x", 0)], ends=[(1, "")])):
            self.assertIs(steady(machine), True)
            self.assertIsNone(growth(machine))
            self.same((lag_bound(machine), lag_table(machine)), (0, []))

    def test_loops_that_write_the_same(self):
        for words, grows in ((("x", "x"), False), (("x", "xx"), True), (("x", ""), True), (("", ""), False), (("x", "y"), True)):
            arcs = [(0, "a", words[0], 0), (1, "a", words[1], 1)]
            machine = Machine("a", "xy", 2, begins=[(0, ""), (1, "")], arcs=arcs, ends=[(0, ""), (1, "")])
            self.assertIs(steady(machine), not grows)

    def test_the_lag_before_the_loop_counts(self):
        for begins, grows in ((("", ""), False), (("x", ""), True), (("xy", ""), False), (("", "xyxy"), False),
                              (("y", ""), True), (("x", "x"), False), (("x", "y"), True), (("xyx", ""), True)):
            arcs = [(0, "a", "xy", 0), (1, "a", "xy", 1)]
            machine = Machine("a", "xy", 2, begins=[(0, begins[0]), (1, begins[1])], arcs=arcs, ends=[(0, ""), (1, "")])
            self.assertIs(steady(machine), not grows, begins)
        arcs = [(0, "a", "yx", 0), (1, "a", "xy", 1)]
        machine = Machine("a", "xy", 2, begins=[(0, ""), (1, "y")], arcs=arcs, ends=[(0, ""), (1, "")])
        self.assertIs(steady(machine), True)

    def test_ways_through_the_same_states(self):
        # The two ways differ in their begins alone, or in one arc of the loop.
        machine = Machine("a", "xy", 1, begins=[(0, ""), (0, "y")], arcs=[(0, "a", "x", 0)], ends=[(0, "")])
        self.assertIs(steady(machine), False)
        machine = Machine("a", "xy", 1, begins=[(0, "")], arcs=[(0, "a", "x", 0), (0, "a", "", 0)], ends=[(0, "")])
        self.assertIs(steady(machine), False)

    def test_twins_that_do_not_meet_count(self):
        self.assertIsNone(two_words(FORK))
        self.same(growth(FORK), FORK_PAPER)

    def test_states_that_are_not_useful_do_not_count(self):
        arcs = [(0, "a", "x", 0), (0, "a", "xx", 1), (1, "a", "y", 1)]
        self.assertIs(steady(Machine("a", "xy", 2, begins=[(0, ""), (1, "")], arcs=arcs, ends=[(0, "")])), True)
        self.assertIs(steady(Machine("a", "xy", 2, begins=[(0, ""), (1, "")], arcs=arcs, ends=[(0, ""), (1, "")])), False)

    def test_unlike_lags_with_equal_differences(self):
        # Two ways of one length lead to the loop, which changes the lag of the one, or of the other.
        for loop in ("x", "y"):
            arcs = [(0, "a", "x", 1), (0, "a", "y", 1), (0, "a", "", 2), (1, "b", loop, 1), (2, "b", loop, 2)]
            machine = Machine("ab", "xy", 3, begins=[(0, "")], arcs=arcs, ends=[(1, ""), (2, "")])
            paper = growth(machine)
            self.assertTrue(really_growth(machine, paper))
            arcs = [arc for arc in arcs if arc[2] != ("y" if loop == "x" else "x")]
            self.assertIs(steady(Machine("ab", "xy", 3, begins=[(0, "")], arcs=arcs, ends=[(1, ""), (2, "")])), True)

    def test_loops_that_are_looked_at_late(self):
        # The one of two unlike lags that is found first is the one that a loop changes, which is gone round later.
        for begins, arcs in (
            ([(1, ""), (1, "x")], [(0, "a", "", 1), (1, "a", "x", 0), (1, "b", "y", 0)]),
            ([(0, ""), (0, "y")], [(0, "a", "", 1), (0, "b", "x", 1), (1, "a", "", 0)]),
        ):
            machine = Machine("ab", "xy", 2, begins=begins, arcs=arcs, ends=[(1, "")])
            self.assertTrue(really_growth(machine, growth(machine)))
        arcs = [(0, "a", "", 3), (1, "a", "x", 0), (1, "a", "x", 1), (2, "a", "", 1), (3, "a", "x", 2), (3, "a", "y", 2)]
        machine = Machine("ab", "xy", 4, begins=[(0, "x"), (1, "y")], arcs=arcs, ends=[(3, "")])
        self.assertTrue(really_growth(machine, growth(machine)))

    def test_loops_that_change_one_of_two_lags(self):
        # Between 0 and 1 the lag is x; over ba it becomes y. The loop c changes x but not y, or y but not x.
        for loop in ("x", "y"):
            arcs = [(0, "a", "", 2), (1, "a", "", 3), (2, "a", "", 0), (3, "a", "", 1), (0, "b", "y", 2), (1, "b", "x", 3),
                    (0, "c", loop, 0), (1, "c", loop, 1)]
            machine = Machine("abc", "xy", 4, begins=[(0, "x"), (1, "")], arcs=arcs, ends=[(0, ""), (1, "")])
            paper = growth(machine)
            self.assertTrue(really_growth(machine, paper))
            self.assertLessEqual(len(paper[0][1]), 3 * len(all_pairs(machine, machine)))

    def test_lags_that_are_reached_again_first(self):
        # The states 0 and 1 keep their lag by a; later they have the lag x, which the loop of b keeps and that of c not.
        arcs = [(0, "a", "", 0), (1, "a", "", 1), (2, "a", "x", 0), (3, "a", "", 1), (0, "b", "", 4), (1, "b", "", 5),
                (4, "b", "x", 4), (5, "b", "x", 5), (0, "c", "", 6), (1, "c", "", 7)]
        begins, ends = [(state, "") for state in range(4)], [(state, "") for state in range(4, 8)]
        for loop in ("x", "y"):
            more = [(6, "c", loop, 6), (7, "c", loop, 7)]
            machine = Machine("abc", "xy", 8, begins=begins, arcs=arcs + more, ends=ends)
            self.assertIs(steady(machine), loop == "x")
            self.assertIs(machine_lags(machine) is None, loop == "y")

    def test_unlike_lags_of_begins(self):
        for loop in ("x", "y"):
            arcs = [(0, "a", "", 1), (2, "a", "", 3), (1, "a", loop, 1), (3, "a", loop, 3)]
            machine = Machine("a", "xy", 4, begins=[(0, "x"), (0, "y"), (2, "")], arcs=arcs, ends=[(1, ""), (3, "")])
            paper = growth(machine)
            self.assertTrue(really_growth(machine, paper))
            self.assertIs(is_growth(machine, paper), True)

    def test_more_lags_than_can_be_listed(self):
        # 2 ** 60 lags below; only with a loop behind them the machine grows.
        arcs = [(level, "a", word, level + 1) for level in range(60) for word in "xy"]
        machine = Machine("ab", "xy", 61, begins=[(0, "")], arcs=arcs, ends=[(60, "")])
        self.assertIs(steady(machine), True)
        self.fails(TooLarge, LAGS, lag_table, machine)
        self.same(lag_bound(machine), 60)
        machine = Machine("ab", "xy", 61, begins=[(0, "")], arcs=arcs + [(60, "b", "", 60)], ends=[(60, "")])
        self.assertIs(steady(machine), True)
        machine = Machine("ab", "xy", 61, begins=[(0, "")], arcs=arcs + [(60, "b", "x", 60)], ends=[(60, "")])
        self.assertTrue(really_growth(machine, growth(machine)))
        self.assertLessEqual(len(growth(machine)[0][1]), 3 * 61)

    def test_many_differences(self):
        # The lags are of one letter, so they have unlike differences, and the loop keeps each of them.
        arcs = [(level, "a", "x" * size, level + 1) for level in range(60) for size in (0, 1, 5, 25, 113, 400)]
        for loop, grows in (("", False), ("x", False), ("xxx", False), ("y", True), ("xy", True)):
            machine = Machine("ab", "xy", 61, begins=[(0, "")], arcs=arcs + [(60, "b", loop, 60)], ends=[(60, "")])
            self.assertIs(steady(machine), not grows)
            if grows:
                self.assertTrue(really_growth(machine, growth(machine)))
        # Of many lags that fit before the loop, one does not.
        more = [(0, "a", "y" + "x" * 399, 1)]
        machine = Machine("ab", "xy", 61, begins=[(0, "")], arcs=arcs + more + [(60, "b", "x", 60)], ends=[(60, "")])
        self.assertTrue(really_growth(machine, growth(machine)))
        # One that is found late, behind two ways that fit and are shorter.
        arcs = [(0, "a", "", 1), (0, "a", "x", 1), (0, "a", "xx", 1), (1, "a", "x", 1), (0, "b", "x", 2), (2, "a", "xyx", 3),
                (3, "a", "", 1)]
        machine = Machine("ab", "xy", 4, begins=[(0, "")], arcs=arcs + [(0, "b", "", 1)], ends=[(1, "")])
        self.assertTrue(really_growth(machine, growth(machine)))
        self.assertIs(machine_lags(machine), None)

    def test_large_rings(self):
        for machine, grows in ((rings(20, 19), True), (rings(28, 28, "x", "x"), False), (rings(12, 13, "xy", "xy"), False),
                               (rings(28, 27, "xy", "yx"), True)):
            paper = growth(machine)
            self.assertIs(paper is not None, grows)
            if grows:
                self.assertTrue(really_growth(machine, paper))
                self.assertLessEqual(len(paper[0][1]), 3 * len(all_pairs(machine, machine)))
            else:
                self.same(len(lag_table(machine)), len(all_pairs(machine, machine)))

    def test_the_limits(self):
        self.assertIs(steady(fan(40)), True)
        for function in (growth, steady, lag_bound, lag_table, lambda machine: is_lag_table(machine, "no table"),
                         lambda machine: spread(machine, FORK_PAPER, 1)):
            self.fails(TooLarge, PAIRS, function, fan(40, [(0, "a", "", 40)], 1))
            self.fails(TooLarge, PAIRS, function, fan(41, [(0, "a", "x" * size, 0) for size in range(64)]))
            self.fails(TooLarge, STEPS, function, loops(64))

    def test_fresh(self):
        before = parts(FORK)
        self.fresh(lambda: growth(FORK))
        # Both ways are the same list of arcs here, but not one list.
        arcs = [(0, "a", "x", 0)]
        machine = Machine("a", "xy", 1, begins=[(0, ""), (0, "y")], arcs=arcs, ends=[(0, "")])
        self.same(growth(machine)[0][1], growth(machine)[1][1])
        self.fresh(lambda: growth(machine))
        self.same(parts(FORK), before)


class Judging(Case):
    """Points [8] and [39]."""

    def test_right_ones(self):
        self.assertIs(is_growth(FORK, FORK_PAPER), True)
        first, second = [(0, "a", "x", 0)], [(1, "a", "xx", 1)]
        for size in range(1, 5):
            for at in range(size):
                self.assertIs(is_growth(FORK, (((0, ""), first * size), ((1, "y"), second * size), at)), True)
                self.assertIs(is_growth(FORK, (((1, "y"), second * size), ((0, ""), first * size), at)), True)

    def test_wrong_ones(self):
        first, second = ((0, ""), [(0, "a", "x", 0)]), ((1, "y"), [(1, "a", "xx", 1)])
        for paper in ((first, first, 0), (second, second, 0), (first, second, 1), (first, second, -1),
                      (first, ((1, "y"), second[1] * 2), 0), (((0, ""), []), ((1, "y"), []), 0),
                      (((0, ""), []), ((1, "y"), []), -1), (first, second), (first, second, 0, 0), [first, second, 0]):
            self.assertIs(is_growth(FORK, paper), False)

    def test_the_loop_must_be_one_for_both(self):
        arcs = [(0, "a", "x", 1), (1, "a", "x", 0), (2, "a", "", 2)]
        machine = Machine("a", "x", 3, begins=[(0, ""), (2, "")], arcs=arcs, ends=[(0, ""), (2, "")])
        one, still = ((0, ""), arcs[:2] * 2), ((2, ""), [arcs[2]] * 4)
        self.assertEqual([is_growth(machine, (one, still, at)) for at in range(-1, 5)], [False, True, False, True, False, False])
        self.assertEqual([is_growth(machine, (still, one, at)) for at in range(-1, 5)], [False, True, False, True, False, False])
        odd, still = ((0, ""), arcs[:2] + arcs[:1]), ((2, ""), [arcs[2]] * 3)
        self.assertEqual([is_growth(machine, (odd, still, at)) for at in range(4)], [False, True, False, False])

    def test_the_same_word_must_be_read(self):
        arcs = [(0, "a", "x", 0), (1, "b", "", 1), (1, "a", "", 1)]
        machine = Machine("ab", "x", 2, begins=[(0, ""), (1, "")], arcs=arcs, ends=[(0, ""), (1, "")])
        self.assertIs(is_growth(machine, (((0, ""), [arcs[0]]), ((1, ""), [arcs[2]]), 0)), True)
        self.assertIs(is_growth(machine, (((0, ""), [arcs[0]]), ((1, ""), [arcs[1]]), 0)), False)

    def test_last_states_must_be_useful(self):
        arcs = [(0, "a", "x", 0), (1, "a", "", 1)]
        paper = (((0, ""), [arcs[0]]), ((1, ""), [arcs[1]]), 0)
        for ends, right in (([(0, ""), (1, "")], True), ([(0, "")], False), ([(1, "")], False), ([], False)):
            machine = Machine("a", "x", 2, begins=[(0, ""), (1, "")], arcs=arcs, ends=ends)
            self.assertIs(is_growth(machine, paper), right)

    def test_the_lag_must_change(self):
        arcs = [(0, "a", "xy", 0), (1, "a", "yx", 1)]
        # x before yx, yx, .. is the same as xy, xy, .. is; so are xyx and y before xy, xy, ..
        for begins, right in ((("", "x"), False), (("", "xyx"), False), (("y", ""), False), (("yxy", ""), False),
                              (("", ""), True), (("x", ""), True), (("", "y"), True), (("", "xy"), True)):
            machine = Machine("a", "xy", 2, begins=[(0, begins[0]), (1, begins[1])], arcs=arcs, ends=[(0, ""), (1, "")])
            first, second = ((0, begins[0]), [arcs[0]]), ((1, begins[1]), [arcs[1]])
            self.assertIs(is_growth(machine, (first, second, 0)), right, begins)
            self.assertIs(is_growth(machine, (second, first, 0)), right, begins)

    def test_wrong_at_a_single_place(self):
        count = 0
        for machine, paper in [(FORK, FORK_PAPER)] + growing_machines(152, 60)[:12]:
            self.assertIs(is_growth(machine, paper), True)
            for other in variants(paper, FILLERS):
                right = really_growth(machine, other)
                self.assertIs(is_growth(machine, other), right, other)
                count += not right
        self.assertGreater(count, 2000)

    def test_any_plain_value(self):
        for machine in (FORK, machine_for_judging(), Machine("a", "x", 0)):
            for value in NO_TEXTS + ("", "abc", (None, None, None), ((), (), 0), (((0, ""), []), ((0, ""), []), 0),
                                     ([], [], []), (((0, ""), None), ((0, ""), None), 0), FORK_PAPER[:2], [*FORK_PAPER]):
                self.assertIs(is_growth(machine, value), False)

    def test_long_papers(self):
        first, second = [(0, "a", "x", 0)] * 5000, [(1, "a", "xx", 1)] * 5000
        self.assertIs(is_growth(FORK, (((0, ""), first), ((1, "y"), second), 4999)), True)
        self.assertIs(is_growth(FORK, (((0, ""), first), ((1, "y"), second), 5000)), False)
        self.assertIs(is_growth(FORK, (((0, ""), first), ((1, "y"), second[1:]), 10)), False)

    def test_twin_pairs_are_not_needed(self):
        machine = fan(64, [(0, "a", "x" * size, 0) for size in range(100)])
        self.assertIs(is_growth(machine, (((0, ""), [(0, "a", "", 0)]), ((0, ""), [(0, "a", "x", 0)]), 0)), True)
        self.fails(TooLarge, PAIRS, growth, machine)

    def test_papers_stay(self):
        paper = copy.deepcopy(FORK_PAPER)
        is_growth(FORK, paper)
        pumped_lag(paper, 3)
        spread(FORK, paper, 3)
        self.same(paper, FORK_PAPER)


class Bound(Case):
    """Point [41]."""

    def test_the_number(self):
        for machine in some_machines(153, 150):
            self.same(lag_bound(machine), bound_of(machine, all_pairs(machine, machine)))

    def test_no_lag_of_a_steady_machine_is_longer(self):
        for machine in some_machines(154, 150):
            entries = machine_lags(machine)
            for entry in entries or []:
                self.assertLessEqual(max(len(entry[2]), len(entry[3])), lag_bound(machine))

    def test_growing_machines_have_it_too(self):
        # The pairs are (0, 0), (0, 1), (1, 0), (1, 1), (2, 2), (3, 3).
        self.same(lag_bound(FORK), 1 + 5 * 2)

    def test_useful_begins_and_arcs_alone(self):
        arcs = [(0, "a", "xx", 1), (0, "a", "x" * 9, 2), (3, "a", "x" * 9, 1), (2, "a", "x" * 9, 2)]
        machine = Machine("a", "x", 4, begins=[(0, "xxx"), (2, "x" * 9)], arcs=arcs, ends=[(1, "x" * 9), (0, "")])
        self.same(lag_bound(machine), 3 + 1 * 2)

    def test_one_pair_and_no_arcs(self):
        self.same(lag_bound(Machine("a", "x", 1, begins=[(0, "xx")], ends=[(0, "")])), 2)
        self.same(lag_bound(Machine("a", "x", 1, begins=[(0, "xx")], arcs=[(0, "a", "xxx", 0)], ends=[(0, "")])), 2)
        self.same(lag_bound(Machine("a", "x", 2, begins=[(0, "x"), (1, "xx")], ends=[(0, ""), (1, "")])), 2)
        self.same(lag_bound(fan(40)), 0)


class Table(Case):
    """Point [43]."""

    def test_tables(self):
        tables = 0
        for machine in some_machines(155, 250):
            entries = machine_lags(machine)
            if entries is None:
                error = self.fails(Growing, {"paper": growth(machine)}, lag_table, machine)
                self.assertIs(is_growth(machine, error.paper), True)
            elif len(entries) <= 600:
                self.same(lag_table(machine), entries)
                self.assertIs(is_lag_table(machine, entries), True)
                tables += bool(entries)
        self.assertGreater(tables, 60)

    def test_machines_that_tell_two_words(self):
        steady_one = Machine("a", "xy", 1, begins=[(0, "x"), (0, "y")], arcs=[(0, "a", "", 0)], ends=[(0, "")])
        self.same(lag_table(steady_one), [(0, 0, "", ""), (0, 0, "x", "y"), (0, 0, "y", "x")])
        growing = Machine("a", "xy", 1, begins=[(0, "")], arcs=[(0, "a", "x", 0), (0, "a", "y", 0)], ends=[(0, "")])
        self.fails(Growing, {"paper": growth(growing)}, lag_table, growing)

    def test_600_and_601_entries(self):
        def two(count, more):
            begins = [(0, "x" * size) for size in range(count)] + [(1, "x" * size) for size in range(more)]
            return Machine("ab", "xy", 2, begins=begins, arcs=[(0, "a", "x", 0), (1, "a", "x", 1)], ends=[(0, ""), (1, "")])
        machine = two(100, 51)
        table = lag_table(machine)
        self.same(len(table), 600)
        self.assertIs(is_lag_table(machine, table), True)
        self.same(table, sorted(table, key=entry_key))
        self.fails(TooLarge, LAGS, lag_table, starts(301))
        self.fails(TooLarge, LAGS, lag_table, starts(301, [(0, "a", "x", 0)]))
        self.same(len(lag_table(starts(300))), 599)

    def test_growing_is_told_before_the_lags(self):
        machine = starts(400, [(0, "a", "y", 0)])
        self.fails(Growing, {"paper": growth(machine)}, lag_table, machine)

    def test_closed_tables_may_hold_more(self):
        machine = Machine("a", "xy", 1, begins=[(0, "x")], arcs=[(0, "a", "", 0)], ends=[(0, "")])
        self.same(lag_table(machine), [(0, 0, "", "")])
        for table, right in (
            ([(0, 0, "", ""), (0, 0, "", "x"), (0, 0, "yx", "xxy")], True), ([(0, 0, "", "x" * 5000)], False), ([], False),
            ([(0, 0, "", ""), (0, 0, "x", "x")], False), ([(0, 0, "", ""), (0, 0, "xy", "xx")], False),
            ([(0, 0, "", ""), (0, 0, "", "x" * 5000)], True), ([(0, 0, "", "x"), (0, 0, "", "")], False),
            ([(0, 0, "", ""), (0, 0, "", "")], False), ([(0, 0, "", ""), (0, 0, "", "z")], False),
            ([(0, 0, "", ""), (0, 1, "", "")], False), ([(0, 0, "", ""), (1, 0, "", "")], False),
            ([(0, 0, "", ""), (0, HUGE, "", "")], False), ([(-1, 0, "", ""), (0, 0, "", "")], False),
        ):
            self.assertIs(is_lag_table(machine, table), right, table)

    def test_a_closed_table_of_lags_that_are_not_reached(self):
        arcs = [(0, "a", "x", 0), (1, "a", "x", 1)]
        machine = Machine("a", "xy", 2, begins=[(0, ""), (1, "")], arcs=arcs, ends=[(0, ""), (1, "")])
        table = lag_table(machine)
        self.assertIs(is_lag_table(machine, sorted(table + [(0, 1, "x", "")], key=entry_key)), True)
        self.assertIs(is_lag_table(machine, sorted(table + [(0, 1, "y", "")], key=entry_key)), False)
        self.assertIs(is_lag_table(machine, [entry for entry in table if entry[0] == entry[1]]), False)
        self.assertIs(is_lag_table(FORK, []), False)

    def test_wrong_at_a_single_place(self):
        fillers = FILLERS + ((0, 0, "", ""), [(0, 0, "", "")])
        count, tables = 0, 0
        for machine in some_machines(156, 200):
            entries = machine_lags(machine)
            if entries and len(entries) <= 12:
                pairs = all_pairs(machine, machine)
                tables += 1
                for paper in variants(entries, fillers):
                    right = really_lag_table(machine, pairs, paper)
                    self.assertIs(is_lag_table(machine, paper), right, paper)
                    count += not right
        self.assertGreater(tables, 30)
        self.assertGreater(count, 3000)

    def test_any_plain_value(self):
        for machine in (FORK, machine_for_judging()):
            for value in NO_TEXTS + ("", "abc", [[]], [()], [(0, 0, "")], [(0, 0, "", "", "")], [[0, 0, "", ""]], ((0, 0, "", ""),)):
                self.assertIs(is_lag_table(machine, value), False)
        self.assertIs(is_lag_table(Machine("a", "x", 0), []), True)
        self.assertIs(is_lag_table(Machine("a", "x", 0), ()), False)
        self.assertIs(is_lag_table(Machine("a", "x", 0), [(0, 0, "", "")]), False)

    def test_tables_stay(self):
        machine = rings(2, 3, "x", "x")
        table = lag_table(machine)
        before = copy.deepcopy(table)
        is_lag_table(machine, table)
        self.same(table, before)
        self.fresh(lambda: lag_table(machine))

    def test_the_paper_of_the_error_is_a_copy(self):
        errors = [self.fails(Growing, {"paper": FORK_PAPER}, lag_table, FORK) for _ in range(2)]
        spoil(errors[0].paper)
        self.same(errors[1].paper, FORK_PAPER)
        self.same(growth(FORK), FORK_PAPER)
        rows = lists_in(errors[1].paper)
        self.same(len({id(row) for row in rows}), 2)


class Pumped(Case):
    """Points [40] and [44]."""

    def test_lags(self):
        for machine, paper in growing_machines(157, 150):
            first, second, at = paper
            lags = []
            for times in list(range(8)) + [50]:
                lags.append(pumped_lag(paper, times))
                self.same(lags[-1], lag(writes(first, at, times), writes(second, at, times)))
            self.same(len(set(lags)), len(lags))
            margin = 1 + len(lags[0][0]) + len(lags[0][1])
            for times, pair in zip(list(range(8)) + [50], lags):
                self.assertGreaterEqual(max(len(pair[0]), len(pair[1])), times - margin)

    def test_numbers(self):
        self.same(pumped_lag(FORK_PAPER, 0), ("", "y"))
        self.same(pumped_lag(FORK_PAPER, 1), ("x", "yxx"))
        self.same(pumped_lag(FORK_PAPER, 50), ("x" * 50, "y" + "x" * 100))

    def test_a_loop_behind_other_arcs(self):
        arcs = [(0, "a", "xx", 1), (1, "b", "x", 1), (0, "a", "", 2), (2, "b", "xx", 2)]
        paper = (((0, ""), [arcs[0], arcs[1]]), ((0, ""), [arcs[2], arcs[3]]), 1)
        self.same([pumped_lag(paper, times) for times in range(4)], [("xx", ""), ("x", ""), ("", ""), ("", "x")])

    def test_wrong_times(self):
        for value in NO_INTEGERS + (-1, 51, HUGE, -HUGE):
            self.fails_with(BadNumber, value, pumped_lag, FORK_PAPER, value)
            self.fails_with(BadNumber, value, spread, FORK, FORK_PAPER, value)
            # The times are looked at before the machine.
            self.fails_with(BadNumber, value, spread, fan(64), FORK_PAPER, value)
            self.fails_with(BadNumber, value, spread, loops(2), FORK_PAPER, value)


class Spread(Case):
    """Point [44]."""

    def test_words(self):
        papers = 0
        for machine, paper in growing_machines(158, 300):
            if two_words(machine) is not None:
                self.fails(TwoWords, {"paper": two_words(machine)}, spread, machine, paper, 1)
                continue
            papers += 1
            first, second, at = paper
            margin = 1 + sum(len(told) for told in spread(machine, paper, 0)[1::2])
            for times in (0, 1, 2, 9):
                word1, told1, word2, told2 = spread(machine, paper, times)
                self.same(word1, reads(first, at, times) + least_ending(machine, first[1][-1][3]))
                self.same(word2, reads(second, at, times) + least_ending(machine, second[1][-1][3]))
                self.same((told_list(machine, word1), told_list(machine, word2)), ([told1], [told2]))
                self.assertGreaterEqual(max(len(side) for side in lag(told1, told2)), times - margin)
        self.assertGreater(papers, 25)

    def test_numbers(self):
        self.same(spread(FORK, FORK_PAPER, 0), ("b", "", "c", "yyx"))
        self.same(spread(FORK, FORK_PAPER, 1), ("ab", "x", "ac", "yxxyx"))
        self.same(spread(FORK, FORK_PAPER, 50), ("a" * 50 + "b", "x" * 50, "a" * 50 + "c", "y" + "x" * 100 + "yx"))
        self.assertIs(type(spread(FORK, FORK_PAPER, 3)), tuple)

    def test_papers_of_the_callers_own(self):
        first, second = ((1, "y"), [(1, "a", "xx", 1)] * 5), ((0, ""), [(0, "a", "x", 0)] * 5)
        self.same(spread(FORK, (first, second, 3), 2), ("a" * 7 + "c", "y" + "x" * 14 + "yx", "a" * 7 + "b", "x" * 7))

    def test_the_least_words_to_an_end(self):
        # From 0 the least way to an end is of two letters, ba before bb; a alone leads into a long way round.
        arcs = [(0, "a", "x", 0), (1, "a", "xx", 1), (0, "b", "y", 2), (2, "b", "x", 3), (2, "a", "y", 4), (0, "c", "", 5),
                (5, "c", "", 6), (6, "a", "", 3), (1, "c", "", 7), (7, "b", "", 8), (7, "c", "x", 8)]
        machine = Machine("abc", "xy", 9, begins=[(0, ""), (1, "")], arcs=arcs, ends=[(3, ""), (4, "x"), (8, "yy")])
        paper = (((0, ""), [arcs[0]]), ((1, ""), [arcs[1]]), 0)
        self.same(spread(machine, paper, 2), ("aaba", "xxyyx", "aacb", "xxxxyy"))

    def test_read_words_of_more_than_4000_letters(self):
        first, second = [(0, "a", "x", 0)] * 200, [(1, "a", "xx", 1)] * 200
        word1, told1, word2, told2 = spread(FORK, (((0, ""), first), ((1, "y"), second), 0), 50)
        self.same((word1, told1), ("a" * 10000 + "b", "x" * 10000))
        self.same((word2, told2), ("a" * 10000 + "c", "y" + "x" * 20000 + "yx"))

    def test_two_words_are_told_after_the_pairs(self):
        machine = Machine("a", "x", 1, begins=[(0, "")], arcs=[(0, "a", "x", 0), (0, "a", "", 0)], ends=[(0, "")])
        paper = growth(machine)
        self.fails(TwoWords, {"paper": ("a", "", "x")}, spread, machine, paper, 50)
        self.fails(TooLarge, STEPS, spread, loops(64), paper, 50)
        self.fails(TooLarge, PAIRS, spread, fan(41, [(0, "a", "x", 0), (0, "a", "", 0)]), paper, 50)

    def test_papers_of_another_machine(self):
        for at, (machine, paper) in enumerate(growing_machines(159, 60)):
            other = random_machine(seeded(at))
            self.assertIs(is_growth(other, paper), really_growth(other, paper))
            self.assertTrue(same(paper, growth(machine)))
