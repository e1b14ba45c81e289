"""Tests of lagbound.square: points [4] to [7], [11] and [31] to [34]."""

import itertools

from lagbound.errors import BadWord, Mismatch, TooLarge
from lagbound.machines import Machine
from lagbound.square import lags_after, meeting_pairs, pair_steps, twin_pairs
from machine_samples import machine_for_judging, random_machine
from pair_samples import (all_meeting, all_pairs, all_steps, entries_over, entry_key, lockstep_machine, pair_machine,
                          parts)
from support import NO_TEXTS, Case, seeded, words_up_to

PAIRS = {"what": "pairs", "limit": 1600}
STEPS = {"what": "steps", "limit": 4000}
LAGS = {"what": "lags", "limit": 600}


def fan(size, arcs=(), more=0):
    """A machine of `size` states with a begin each, which all have ends, and of `more` states with ends alone."""
    begins = [(state, "") for state in range(size)]
    return Machine("ab", "xy", size + more, begins=begins, arcs=arcs, ends=[(state, "") for state in range(size + more)])


def loops(count, more=()):
    """A machine of one state with so many arcs that read a."""
    arcs = [(0, "a", "x" * size, 0) for size in range(count)]
    return Machine("ab", "xy", 1, begins=[(0, "")], arcs=arcs + list(more), ends=[(0, "")])


def starts(count, arcs=(), size=1):
    """A machine with the begins of x from 0 to count - 1 times at state 0."""
    begins = [(0, "x" * length) for length in range(count)]
    return Machine("ab", "xy", size, begins=begins, arcs=arcs, ends=[(state, "") for state in range(size)])


def some_machines(number, count):
    source = seeded(number)
    for at in range(count):
        make = (pair_machine, lockstep_machine, random_machine)[at % 3]
        yield make(source, most=3), make(source, most=3)


class Pairs(Case):
    """Points [32] and [33]."""

    def test_alone(self):
        for machine, _ in some_machines(131, 60):
            pairs = all_pairs(machine, machine)
            self.same(twin_pairs(machine), pairs)
            self.same(meeting_pairs(machine), all_meeting(machine, machine, pairs))
            self.same(twin_pairs(machine, other=machine), pairs)
            self.same(twin_pairs(machine, other=None), pairs)

    def test_beside_another_one(self):
        for machine, other in some_machines(132, 60):
            pairs = all_pairs(machine, other)
            self.same(twin_pairs(machine, other=other), pairs)
            self.same(meeting_pairs(machine, other=other), all_meeting(machine, other, pairs))

    def test_equal_states_meet(self):
        for machine, _ in some_machines(133, 60):
            meeting = meeting_pairs(machine)
            for pair in twin_pairs(machine):
                if pair[0] == pair[1]:
                    self.assertIn(pair, meeting)

    def test_twins_that_do_not_meet(self):
        # One state ends after a, the other one after b.
        arcs = [(0, "a", "", 1), (0, "a", "", 2), (1, "a", "", 3), (2, "b", "", 3)]
        machine = Machine("ab", "xy", 4, begins=[(0, "")], arcs=arcs, ends=[(3, "")])
        self.same(twin_pairs(machine), [(0, 0), (1, 1), (1, 2), (2, 1), (2, 2), (3, 3)])
        self.same(meeting_pairs(machine), [(0, 0), (1, 1), (2, 2), (3, 3)])

    def test_both_must_read_the_same_word(self):
        arcs = [(0, "a", "", 1), (0, "b", "", 2)]
        machine = Machine("ab", "xy", 3, begins=[(0, "")], arcs=arcs, ends=[(1, ""), (2, "")])
        self.same(twin_pairs(machine), [(0, 0), (1, 1), (2, 2)])

    def test_states_that_are_not_useful(self):
        arcs = [(0, "a", "", 1), (0, "a", "", 2), (3, "a", "", 1)]
        machine = Machine("ab", "xy", 4, begins=[(0, ""), (2, "")], arcs=arcs, ends=[(1, "")])
        self.same(twin_pairs(machine), [(0, 0), (1, 1)])
        self.same(pair_steps(machine), [((0, 0), "a", ("", ""), (1, 1))])

    def test_the_first_item_is_of_the_machine(self):
        machine = Machine("ab", "xy", 2, begins=[(1, "")], ends=[(1, "")])
        other = Machine("ab", "xy", 5, begins=[(4, "")], ends=[(4, "")])
        self.same(twin_pairs(machine, other=other), [(1, 4)])
        self.same(twin_pairs(other, other=machine), [(4, 1)])

    def test_an_other_that_takes_nothing(self):
        machine, none = machine_for_judging(), Machine("ab", "xy", 0)
        for function in (twin_pairs, meeting_pairs, pair_steps):
            self.same(function(machine, other=none), [])
            self.same(function(none, other=machine), [])
            self.same(function(none), [])
        self.same(lags_after(machine, "a", other=none), [])
        self.assertNotEqual(twin_pairs(machine), [])

    def test_1600_and_1601_pairs(self):
        self.same(len(twin_pairs(fan(40))), 1600)
        self.same(len(meeting_pairs(fan(40), other=fan(40))), 1600)
        one_more = fan(40, [(0, "a", "", 40)], 1)
        for function in (twin_pairs, meeting_pairs, pair_steps):
            self.fails(TooLarge, PAIRS, function, one_more)
            self.fails(TooLarge, PAIRS, function, fan(41), other=fan(40))
            self.fails(TooLarge, PAIRS, function, fan(64))
        self.same(len(twin_pairs(fan(41), other=fan(39))), 1599)


class Steps(Case):
    """Point [32]."""

    def test_alone_and_beside_another_one(self):
        for machine, other in some_machines(134, 60):
            for mate in (machine, other):
                expected = all_steps(machine, mate, all_pairs(machine, mate))
                self.same(pair_steps(machine, other=mate), expected)
                if mate is machine:
                    self.same(pair_steps(machine), expected)

    def test_the_order(self):
        arcs = [(0, "b", "", 0), (0, "a", "xx", 1), (0, "a", "y", 1), (0, "a", "y", 0), (0, "a", "", 1), (1, "a", "x", 0)]
        machine = Machine("ab", "xy", 2, begins=[(1, "")], arcs=arcs, ends=[(0, ""), (1, "")])
        steps = pair_steps(machine)
        self.same(steps, all_steps(machine, machine, all_pairs(machine, machine)))
        self.same(steps[:6], [
            ((0, 0), "a", ("", ""), (1, 1)), ((0, 0), "a", ("", "y"), (1, 0)), ((0, 0), "a", ("", "y"), (1, 1)),
            ((0, 0), "a", ("", "xx"), (1, 1)), ((0, 0), "a", ("y", ""), (0, 1)), ((0, 0), "a", ("y", ""), (1, 1))])

    def test_example_of_the_form(self):
        arcs = [(0, "a", "x", 2), (1, "a", "", 2)]
        machine = Machine("ab", "xy", 3, begins=[(0, ""), (1, "")], arcs=arcs, ends=[(2, "")])
        self.assertIn(((0, 1), "a", ("x", ""), (2, 2)), pair_steps(machine))

    def test_4000_and_4001_steps(self):
        more = [(0, "b", "", 0)]
        self.same(len(pair_steps(loops(40), other=loops(100))), 4000)
        for function in (twin_pairs, meeting_pairs, pair_steps):
            self.fails(TooLarge, STEPS, function, loops(40, more), other=loops(100, more))
            self.fails(TooLarge, STEPS, function, loops(64))
        self.same(len(twin_pairs(loops(40, more), other=loops(100))), 1)

    def test_pairs_are_told_before_steps(self):
        arcs = [(0, "b", "x" * size, 0) for size in range(64)]
        for function in (twin_pairs, meeting_pairs, pair_steps):
            self.fails(TooLarge, STEPS, function, fan(40, arcs))
            self.fails(TooLarge, PAIRS, function, fan(41, arcs))
            self.fails(TooLarge, PAIRS, function, fan(40, arcs + [(0, "a", "", 40)], 1))


class Lags(Case):
    """Points [11] and [34]."""

    def test_alone_and_beside_another_one(self):
        for machine, other in some_machines(135, 60):
            for mate, word in itertools.product((machine, other), words_up_to("ab", 3)):
                expected = sorted(entries_over(machine, mate, word), key=entry_key)
                if any(len(entries_over(machine, mate, word[:size])) > 600 for size in range(len(word) + 1)):
                    self.fails(TooLarge, LAGS, lags_after, machine, word, other=mate)
                    continue
                self.same(lags_after(machine, word, other=mate), expected)
                if mate is machine:
                    self.same(lags_after(machine, word), expected)

    def test_the_empty_word(self):
        machine = Machine("ab", "xy", 2, begins=[(0, "xy"), (1, "x"), (0, "")], ends=[(0, ""), (1, "")])
        self.same(lags_after(machine, ""), [
            (0, 0, "", ""), (0, 0, "", "xy"), (0, 0, "xy", ""), (0, 1, "", "x"), (0, 1, "y", ""),
            (1, 0, "", "y"), (1, 0, "x", ""), (1, 1, "", "")])

    def test_words_that_lead_to_no_lag(self):
        machine = Machine("ab", "xy", 1, begins=[(0, "")], arcs=[(0, "a", "x", 0)], ends=[(0, "")])
        self.same(lags_after(machine, "b"), [])
        self.same(lags_after(machine, "baa"), [])
        self.same(lags_after(machine, "aaa"), [(0, 0, "", "")])

    def test_states_that_are_not_useful(self):
        arcs = [(0, "a", "", 0), (0, "a", "x", 1), (1, "a", "", 1)]
        machine = Machine("ab", "xy", 3, begins=[(0, ""), (2, "y")], arcs=arcs, ends=[(0, "")])
        self.same(lags_after(machine, "aa"), [(0, 0, "", "")])

    def test_words_of_4000_letters(self):
        arcs = [(0, "a", "x", 0), (1, "a", "xx", 1)]
        machine = Machine("ab", "xy", 2, begins=[(0, ""), (1, "")], arcs=arcs, ends=[(0, ""), (1, "")])
        self.same(lags_after(machine, "a" * 4000), [
            (0, 0, "", ""), (0, 1, "", "x" * 4000), (1, 0, "x" * 4000, ""), (1, 1, "", "")])
        arcs = [(0, "a", "x", 0), (1, "a", "yy", 1)]
        machine = Machine("ab", "xy", 2, begins=[(0, ""), (1, "")], arcs=arcs, ends=[(0, ""), (1, "")])
        self.same(lags_after(machine, "a" * 4000)[1], (0, 1, "x" * 4000, "y" * 8000))

    def test_wrong_words(self):
        machine = machine_for_judging()
        for value in NO_TEXTS + ("c", "x", "abc", "-", "a b", "a" * 4001):
            self.fails_with(BadWord, value, lags_after, machine, value)
            self.fails_with(BadWord, value, lags_after, machine, value, other=Machine("a", "x", 1))
            self.fails_with(BadWord, value, lags_after, starts(400), value)

    def test_600_and_601_entries(self):
        # Lags of x from -300 to 299, or to 300.
        self.same(len(lags_after(starts(300), "", other=starts(301))), 600)
        for word in ("", "b", "ab"):
            self.fails(TooLarge, LAGS, lags_after, starts(301), word)
            self.fails(TooLarge, LAGS, lags_after, starts(301), word, other=starts(301))

    def test_entries_over_a_prefix(self):
        # The one step leads to many lags, the next one to none.
        def spreading(count):
            return starts(1, [(0, "a", "x" * size, 1) for size in range(count)], 2)
        self.same(len(lags_after(spreading(300), "a", other=spreading(301))), 600)
        self.same(lags_after(spreading(300), "aa", other=spreading(301)), [])
        self.fails(TooLarge, LAGS, lags_after, spreading(301), "a")
        self.fails(TooLarge, LAGS, lags_after, spreading(301), "aa")
        self.same(lags_after(spreading(301), "b"), [])

    def test_twin_pairs_are_not_needed(self):
        rings = [(state, "a", "", (state + 1) % 41) for state in range(41)], [
            (state, "a", "x", (state + 1) % 40) for state in range(40)]
        first, second = (Machine("ab", "xy", 41, begins=[(0, "")], arcs=arcs, ends=[(0, "")]) for arcs in rings)
        self.fails(TooLarge, PAIRS, twin_pairs, first, other=second)
        self.same(lags_after(first, "a" * 2000, other=second), [(32, 0, "", "x" * 2000)])
        self.same(lags_after(loops(64), ""), [(0, 0, "", "")])
        self.same(len(lags_after(loops(64), "a")), 127)


class Others(Case):
    """Points [4], [6] and [31]."""

    def test_mismatch(self):
        for first, second in ((("ab", "xy"), ("a", "xy")), (("ab", "xy"), ("ab", "x")), (("ab", "xy"), ("xy", "ab"))):
            for left, right in ((first, second), (second, first)):
                machine, other = Machine(*left, 1), Machine(*right, 1)
                for function in (twin_pairs, meeting_pairs, pair_steps):
                    self.fails(Mismatch, {}, function, machine, other=other)
                self.fails(Mismatch, {}, lags_after, machine, "", other=other)

    def test_mismatch_is_told_before_pairs_steps_and_lags(self):
        other = Machine("a", "x", 1)
        for function in (twin_pairs, meeting_pairs, pair_steps):
            self.fails(Mismatch, {}, function, fan(64), other=other)
            self.fails(Mismatch, {}, function, loops(64), other=other)
        self.fails(Mismatch, {}, lags_after, starts(400), "", other=other)

    def test_other_is_passed_by_name(self):
        machine = machine_for_judging()
        for function in (twin_pairs, meeting_pairs, pair_steps):
            with self.assertRaises(TypeError):
                function(machine, machine)

    def test_fresh(self):
        machine, other = machine_for_judging(), random_machine(seeded(136))
        before = parts(machine), parts(other)
        for function in (twin_pairs, meeting_pairs, pair_steps):
            self.fresh(lambda: function(machine))
            self.fresh(lambda: function(machine, other=other))
        self.fresh(lambda: lags_after(machine, "ab"))
        self.fresh(lambda: lags_after(machine, "", other=other))
        self.same((parts(machine), parts(other)), before)
