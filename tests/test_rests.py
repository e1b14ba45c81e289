"""Tests of lagbound.rests: points [4] to [8] and [50] to [53]."""

import copy

from lagbound.errors import Growing, TooLarge, TwoWords
from lagbound.growth import growth, lag_bound
from lagbound.machines import Machine
from lagbound.machinetext import read_machine
from lagbound.onlyone import two_words
from lagbound.readers import Reader, empty_reader, reader_machine
from lagbound.rests import build, fate, is_fate, is_rests, rests
from machine_samples import machine_for_judging, random_machine, variants
from pair_samples import (forked_machine, levels_machine, lockstep_machine, pair_machine, parts, really_growth,
                          really_rests, rows_by_finding, told_list, useful)
from reader_samples import random_reader, reader_parts
from support import HUGE, NO_TEXTS, Case, lists_in, same, seeded, spoil, words_up_to
from test_growth import FORK, FORK_PAPER
from test_square import PAIRS, STEPS, fan, loops

EXAMPLE = "machine ab xy 4\nbegin 0 -\narc 0 a x 1\narc 0 a y 2\narc 1 b - 3\narc 2 a - 3\nend 3 -"
EXAMPLE_ROWS = [[(0, "")], [(1, "x"), (2, "y")], [(3, "")]]
EXAMPLE_MOVES = [[("", 1), None], [("y", 2), ("x", 2)], [None, None]]
TWO = Machine("a", "xy", 1, begins=[(0, "")], arcs=[(0, "a", "x", 0), (0, "a", "y", 0)], ends=[(0, "")])
FILLERS = (True, False, None, 0, 1, 2, -1, HUGE, "", "x", "y", "xy", "c", [], (), (0, ""), (1, "x"), [(0, "")])
PLAIN = NO_TEXTS + ("", "abc", [[]], [()], [[()]], [[(0,)]], [[(0, "", "")]], [[[0, ""]]], [[(0, "")]], ([(0, "")],), [((0, ""),)],
                    [[(True, "")]], [[(0, None)]], [[(0, "z")]], [[(HUGE, "")]])


def some_machines(number, count):
    source = seeded(number)
    for at in range(count):
        yield (lambda: lockstep_machine(source, most=4), lambda: pair_machine(source, most=3), lambda: forked_machine(source),
               lambda: lockstep_machine(source, read="abc", most=3), lambda: levels_machine(source, 3))[at % 5]()


def good_machines(number, count):
    """Machines that tell one word and are steady, and take something."""
    return [machine for machine in some_machines(number, count)
            if useful(machine) and two_words(machine) is None and growth(machine) is None]


def two_rests(first, second, ends=("", "")):
    """A machine that holds back the word `first` or `second` after a, until b or c tells which one is due."""
    arcs = [(0, "a", "x" + first, 1), (0, "a", "y" + second, 2), (1, "b", "", 3), (2, "c", "", 4)]
    return Machine("abc", "xy", 5, begins=[(0, "")], arcs=arcs, ends=[(3, ends[0]), (4, ends[1])])


class Build(Case):
    """Points [50] and [51]."""

    def test_the_examples(self):
        machine = read_machine(EXAMPLE)
        self.same(reader_parts(build(machine)), ("ab", "xy", "", EXAMPLE_MOVES, [None, None, ""]))
        self.same(rests(machine), EXAMPLE_ROWS)

    def test_the_same_words(self):
        machines = good_machines(171, 250)
        self.assertGreater(len(machines), 80)
        for machine in machines:
            reader = build(machine)
            for word in words_up_to(machine.read, 4):
                told = told_list(machine, word)
                self.same(reader.tell(word), told[0] if told else None)

    def test_rows_and_their_numbers(self):
        large = 0
        for machine in good_machines(172, 250):
            rows, words = rows_by_finding(machine)
            table = rests(machine)
            self.same(table, rows)
            reader = build(machine)
            self.same(len(reader), len(rows))
            for word, number in zip(words, range(len(rows))):
                self.same(reader.state_after(word), number)
            self.assertTrue(really_rests(machine, reader, table))
            self.assertIs(is_rests(machine, reader, table), True)
            self.assertLessEqual(max([len(rest) for row in table for _, rest in row] or [0]), lag_bound(machine))
            large += len(rows) > 2
        self.assertGreater(large, 20)

    def test_readers_of_machines_of_readers(self):
        # A reader's machine has one course for each word, so its rows are single states with nothing held back.
        source = seeded(173)
        for _ in range(60):
            machine = reader_machine(random_reader(source))
            for row in rests(machine):
                self.assertLessEqual({rest for _, rest in row}, {""})
            self.same([[state for state, _ in row] for row in rests(machine)], [
                [state for state, _ in row] for row in rows_by_finding(machine)[0]])

    def test_the_first_word(self):
        machine = Machine("ab", "xy", 4, begins=[(0, "xyx"), (1, "xyy"), (3, "y")], arcs=[(0, "a", "", 2), (1, "b", "", 2)],
                          ends=[(2, "")])
        self.same(reader_parts(build(machine)), (
            "ab", "xy", "xy", [[("x", 1), ("y", 1)], [None, None]], [None, ""]))
        self.same(rests(machine), [[(0, "x"), (1, "y")], [(2, "")]])

    def test_nothing_is_taken(self):
        for machine in (Machine("ab", "xy", 0), Machine("ab", "xy", 2, begins=[(0, "xx")], arcs=[(0, "a", "x", 0)], ends=[(1, "")])):
            self.same(reader_parts(build(machine)), reader_parts(empty_reader("ab", "xy")))
            self.same(rests(machine), [[]])

    def test_arcs_to_states_that_are_not_useful(self):
        arcs = [(0, "a", "x", 0), (0, "a", "yy", 1), (0, "b", "", 1), (1, "a", "", 1)]
        machine = Machine("ab", "xy", 2, begins=[(0, "")], arcs=arcs, ends=[(0, "")])
        self.same(reader_parts(build(machine)), ("ab", "xy", "", [[("x", 0), None]], [""]))
        self.same(rests(machine), [[(0, "")]])

    def test_final_words_hold_the_rest(self):
        arcs = [(0, "a", "xy", 1), (0, "a", "x", 2), (2, "b", "x", 1)]
        machine = Machine("ab", "xy", 3, begins=[(0, "y")], arcs=arcs, ends=[(1, "yy"), (2, "yyy")])
        self.same(reader_parts(build(machine)), (
            "ab", "xy", "y", [[("x", 1), None], [None, ("x", 2)], [None, None]], [None, "yyy", "yy"]))
        self.same(rests(machine), [[(0, "")], [(1, "y"), (2, "")], [(1, "")]])

    def test_fresh(self):
        machine = read_machine(EXAMPLE)
        before = parts(machine)
        self.fresh(lambda: rests(machine))
        self.fresh(lambda: build(machine).moves)
        self.fresh(lambda: fate(machine)[2])
        self.fresh(lambda: rests(Machine("a", "x", 0)))
        self.same(parts(machine), before)


class Limits(Case):
    """Points [6], [7], [50] and [51]."""

    def too_large(self, what, limit, machine):
        for function in (build, rests, fate):
            self.fails(TooLarge, {"what": what, "limit": limit}, function, machine)

    def test_twin_pairs(self):
        for function in (build, rests, fate):
            self.fails(TooLarge, PAIRS, function, fan(40, [(0, "a", "", 40)], 1))
            self.fails(TooLarge, PAIRS, function, fan(41, [(0, "a", "x" * size, 0) for size in range(64)]))
            self.fails(TooLarge, STEPS, function, loops(64))
        self.same(len(rests(fan(40))[0]), 40)

    def test_64_and_65_rows(self):
        # The letter five places before the end: all sets of the states 1 to 6, each with state 0, are rows.
        arcs = [(0, "a", "", 0), (0, "b", "", 0), (0, "a", "", 1)]
        arcs += [(state, letter, "", state + 1) for state in range(1, 6) for letter in "ab"]
        machine = Machine("abc", "x", 8, begins=[(0, "x")], arcs=arcs, ends=[(6, "x")])
        self.same((len(build(machine)), len(rests(machine))), (64, 64))
        machine = Machine("abc", "x", 8, begins=[(0, "x")], arcs=arcs + [(0, "c", "", 7)], ends=[(6, "x"), (7, "")])
        self.too_large("states", 64, machine)
        arcs += [(6, letter, "", 7) for letter in "ab"]
        self.too_large("states", 64, Machine("abc", "x", 8, begins=[(0, "")], arcs=arcs, ends=[(7, "")]))

    def test_a_line_of_64_states(self):
        arcs = [(state, "a", "x", state + 1) for state in range(63)]
        machine = Machine("a", "x", 64, begins=[(0, "")], arcs=arcs, ends=[(63, "")])
        self.same((len(build(machine)), rests(machine)), (64, [[(state, "")] for state in range(64)]))

    def test_written_words(self):
        # The move by b writes 1 + 199 + 200 letters, or one more; the final word likewise.
        def machine(rest, more, final):
            arcs = [(0, "a", "x" * (rest + 1), 1), (0, "a", "y", 2), (1, "b", "x" * more, 3), (2, "c", "", 3)]
            ends = [(3, "")] + ([(1, "x" * final)] if final else [])
            return Machine("abc", "xy", 4, begins=[(0, "")], arcs=arcs, ends=ends)
        self.same(build(machine(199, 200, 200)).moves[1][1], ("x" * 400, 2))
        self.same(build(machine(199, 0, 200)).finals[1], "x" * 400)
        self.too_large("written", 400, machine(199, 201, 0))
        self.too_large("written", 400, machine(199, 0, 201))
        self.too_large("written", 400, machine(399, 400, 400))
        # A rest may be longer than a written word.
        arcs = [(0, "a", "x" * 400, 1), (0, "a", "y", 2), (1, "a", "x" * 400, 3), (2, "a", "", 4), (3, "b", "", 5), (4, "c", "", 5)]
        long_rest = Machine("abc", "xy", 6, begins=[(0, "")], arcs=arcs, ends=[(5, "")])
        self.too_large("written", 400, long_rest)
        self.same(lag_bound(long_rest) >= 800, True)

    def test_a_first_word_and_moves_of_400_letters(self):
        word = "xy" * 200
        machine = Machine("a", "xy", 1, begins=[(0, word)], arcs=[(0, "a", word, 0)], ends=[(0, word)])
        self.same(reader_parts(build(machine)), ("a", "xy", word, [[(word, 0)]], [word]))

    def test_states_are_told_before_words(self):
        arcs = [(0, "a", "x" * 400, 0), (0, "b", "x" * 400, 0), (0, "a", "x" * 400, 1)]
        arcs += [(state, letter, "x" * 400, state + 1) for state in range(1, 7) for letter in "ab"]
        arcs += [(0, "c", "x" * 400, 8), (0, "c", "y", 9), (8, "a", "x" * 400, 7), (9, "b", "", 7)]
        machine = Machine("abc", "xy", 10, begins=[(0, "")], arcs=arcs, ends=[(7, "")])
        self.too_large("states", 64, machine)
        few = Machine("abc", "xy", 10, begins=[(0, "")], arcs=[arc for arc in arcs if arc[:2] != (0, "a")], ends=[(7, "")])
        self.too_large("written", 400, few)

    def test_two_words(self):
        for machine in (TWO, loops(2), machine_for_judging()):
            for function in (build, rests):
                error = self.fails(TwoWords, {"paper": two_words(machine)}, function, machine)
                self.assertIs(type(error.paper), tuple)

    def test_growing(self):
        for function in (build, rests):
            first = self.fails(Growing, {"paper": FORK_PAPER}, function, FORK)
            second = self.fails(Growing, {"paper": growth(FORK)}, function, FORK)
            spoil(first.paper)
            self.same(second.paper, FORK_PAPER)
            self.same(len({id(row) for row in lists_in(second.paper)}), 2)

    def test_two_words_before_growing_before_other_limits(self):
        self.assertIsNotNone(growth(TWO))
        self.fails(TwoWords, {"paper": ("a", "x", "y")}, build, TWO)
        # Too many rows, and two told words.
        arcs = [(0, "a", "", 0), (0, "b", "", 0), (0, "a", "", 1)]
        arcs += [(state, letter, "", state + 1) for state in range(1, 9) for letter in "ab"]
        machine = Machine("ab", "x", 10, begins=[(0, "")], arcs=arcs, ends=[(9, "")])
        self.too_large("states", 64, machine)
        machine = Machine("ab", "x", 10, begins=[(0, "")], arcs=arcs, ends=[(9, ""), (9, "x")])
        self.fails(TwoWords, {"paper": two_words(machine)}, build, machine)
        # Too many rows, and growing.
        machine = Machine("abc", "x", 12, begins=[(0, ""), (10, "")], ends=[(9, ""), (11, "")],
                          arcs=arcs + [(10, "a", "x", 10), (10, "c", "", 11)])
        self.fails(Growing, {"paper": growth(machine)}, build, machine)


class JudgingRests(Case):
    """Points [8] and [52]."""

    def test_wrong_at_a_single_place(self):
        count = 0
        machines = [read_machine(EXAMPLE)] + [told for told in good_machines(174, 250) if len(rests(told)) < 6][:25]
        for machine in machines:
            reader, table = build(machine), rests(machine)
            self.assertIs(is_rests(machine, reader, table), True)
            for paper in variants(table, FILLERS):
                right = really_rests(machine, reader, paper)
                self.assertIs(is_rests(machine, reader, paper), right, paper)
                count += not right
        self.assertGreater(count, 5000)

    def test_other_readers_and_machines(self):
        machines = good_machines(175, 200)
        right = 0
        for machine in machines[:60]:
            for other in machines[:60]:
                if machine.read == other.read:
                    reader, table = build(other), rests(other)
                    answer = is_rests(machine, reader, table)
                    self.assertIs(answer, really_rests(machine, reader, table))
                    right += answer
        self.assertGreater(right, 60)

    def changed(self, reader, **parts_told):
        kept = {"read": reader.read, "write": reader.write, "first": reader.first, "moves": reader.moves, "finals": reader.finals}
        kept.update(parts_told)
        return Reader(*kept.values())

    def test_readers_that_are_wrong_at_a_single_place(self):
        for machine in [read_machine(EXAMPLE)] + good_machines(176, 60)[:15]:
            reader, table = build(machine), rests(machine)
            others = [self.changed(reader, first=word) for word in ("", "x", "y", "xy") if word != reader.first]
            for state in range(len(reader)):
                for word in (None, "", "x", "y", "xyx"):
                    finals = reader.finals
                    finals[state] = word
                    others.append(self.changed(reader, finals=finals))
                for place in range(len(reader.read)):
                    for move in (None, ("", 0), ("x", 0), ("y", len(reader) - 1), ("", len(reader) - 1)):
                        moves = reader.moves
                        moves[state][place] = move
                        others.append(self.changed(reader, moves=moves))
            for other in others:
                right = really_rests(machine, other, table)
                self.assertIs(is_rests(machine, other, table), right)
                self.assertIs(is_fate(machine, ("reader", other, table)), right)

    def test_alphabets_must_be_the_same(self):
        table = [[(0, "")]]
        machine = Machine("ab", "xy", 1, begins=[(0, "")], ends=[(0, "")])
        for read, write, right in (("ab", "xy", True), ("a", "xy", False), ("ab", "x", False), ("xy", "ab", False)):
            reader = Reader(read, write, "", [[None] * len(read)], [""])
            self.assertIs(is_rests(machine, reader, table), right)

    def test_rows_that_no_word_reaches(self):
        machine = Machine("a", "x", 2, begins=[(0, "")], arcs=[(1, "a", "x", 1)], ends=[(0, "")])
        reader = Reader("a", "x", "", [[None], [("x", 1)]], ["", None])
        self.assertIs(is_rests(machine, reader, [[(0, "")], []]), True)
        self.assertIs(is_rests(machine, reader, [[(0, "")], [(0, "")]]), False)
        self.assertIs(is_rests(machine, reader, [[(0, "")]]), False)
        # State 1 of the machine is not useful.
        self.assertIs(is_rests(machine, reader, [[(0, "")], [(1, "")]]), False)

    def test_states_that_are_not_useful(self):
        # Nothing leads on from the wrong states, so the rows agree in all else.
        machine = Machine("a", "x", 3, begins=[(0, "")], arcs=[(0, "a", "", 1)], ends=[(0, ""), (2, "x")])
        reader = Reader("a", "x", "", [[None], [None]], ["", None])
        self.assertIs(is_rests(machine, reader, [[(0, "")], []]), True)
        for state in (1, 2, 3, -1, HUGE, -HUGE, True, None):
            self.assertIs(is_rests(machine, reader, [[(0, "")], [(state, "")]]), False)
        self.assertIs(is_rests(machine, Reader("a", "x", "", [[None], [None]], ["", "x"]), [[(0, "")], [(2, "")]]), False)

    def test_moves_to_empty_rows(self):
        machine = Machine("a", "x", 1, begins=[(0, "")], ends=[(0, "")])
        reader = Reader("a", "x", "", [[("x", 1)], [("xx", 1)]], ["", None])
        self.assertIs(is_rests(machine, reader, [[(0, "")], []]), True)
        reader = Reader("a", "x", "", [[("x", 1)], [("xx", 1)]], ["", "x"])
        self.assertIs(is_rests(machine, reader, [[(0, "")], []]), False)
        machine = Machine("a", "x", 1, begins=[(0, "")], arcs=[(0, "a", "", 0)], ends=[(0, "")])
        reader = Reader("a", "x", "", [[("", 1)], [None]], ["", None])
        self.assertIs(is_rests(machine, reader, [[(0, "")], []]), False)

    def test_any_first_word_without_begins(self):
        for machine in (Machine("a", "x", 0), Machine("a", "x", 1, begins=[(0, "")])):
            for first in ("", "x", "x" * 400):
                reader = Reader("a", "x", first, [[("x", 0)]], [None])
                self.assertIs(is_rests(machine, reader, [[]]), True)
                self.assertIs(is_rests(machine, reader, [[(0, "")]]), False)
                self.assertIs(is_rests(machine, Reader("a", "x", first, [[None]], [""]), [[]]), False)

    def test_tables_that_are_not_the_ones_of_build(self):
        # A reader that writes later than it could, and one that writes earlier than the courses.
        machine = Machine("ab", "xy", 2, begins=[(0, "")], arcs=[(0, "a", "x", 1), (1, "b", "y", 1)], ends=[(1, "")])
        late = Reader("ab", "xy", "", [[("", 1), None], [None, ("x", 2)], [None, ("y", 2)]], [None, "x", "y"])
        self.assertIs(is_rests(machine, late, [[(0, "")], [(1, "x")], [(1, "y")]]), True)
        self.assertIs(is_rests(machine, late, [[(0, "")], [(1, "x")], [(1, "")]]), False)
        early = Reader("ab", "xy", "x", [[("", 1), None], [None, ("y", 1)]], [None, ""])
        self.assertIs(is_rests(machine, early, [[(0, "")], [(1, "")]]), False)
        twice = Reader("ab", "xy", "", [[("x", 1), None], [None, ("y", 2)], [None, ("y", 1)]], [None, "", ""])
        self.assertIs(is_rests(machine, twice, [[(0, "")], [(1, "")], [(1, "")]]), True)

    def test_states_in_order_and_each_once(self):
        machine = Machine("a", "x", 2, begins=[(0, ""), (1, "")], ends=[(0, ""), (1, "")])
        reader = Reader("a", "x", "", [[None]], [""])
        self.assertIs(is_rests(machine, reader, [[(0, ""), (1, "")]]), True)
        for row in ([(1, ""), (0, "")], [(0, ""), (0, ""), (1, "")], [(0, "")], [(0, ""), (1, ""), (2, "")], [(False, ""), (True, "")]):
            self.assertIs(is_rests(machine, reader, [row]), False)

    def test_rests_of_any_length(self):
        arcs = [(0, "a", "x" * 400, 0), (1, "a", "", 1)]
        machine = Machine("a", "x", 2, begins=[(0, ""), (1, "")], arcs=arcs, ends=[])
        self.assertIs(is_rests(machine, Reader("a", "x", "", [[None]], [None]), [[]]), True)
        machine = Machine("a", "x", 1, begins=[(0, "")], arcs=[(0, "a", "x", 0)], ends=[(0, "")])
        late = Reader("a", "x", "", [[("", 1)], [("x", 1)]], ["", "x"])
        self.assertIs(is_rests(machine, late, [[(0, "")], [(0, "x")]]), True)
        self.assertIs(is_rests(machine, late, [[(0, "")], [(0, "x" * 100000)]]), False)

    def test_any_plain_value(self):
        for machine in (machine_for_judging(), Machine("ab", "xy", 0), read_machine(EXAMPLE)):
            for reader in (empty_reader("ab", "xy"), Reader("ab", "xy", "", EXAMPLE_MOVES, [None, None, ""])):
                for value in PLAIN:
                    self.assertIs(is_rests(machine, reader, value), really_rests(machine, reader, value))

    def test_twin_pairs_are_not_needed(self):
        machine = fan(64)
        reader = Reader("ab", "xy", "", [[None, None]], [""])
        self.assertIs(is_rests(machine, reader, [[(state, "") for state in range(64)]]), True)
        self.assertIs(is_rests(machine, reader, [[(state, "") for state in range(63)]]), False)
        self.assertIs(is_fate(machine, ("reader", reader, [[(state, "") for state in range(64)]])), True)
        many = fan(64, [(0, "a", "x" * size, 0) for size in range(100)])
        self.assertIs(is_rests(many, reader, [[(state, "") for state in range(64)]]), False)
        self.assertIs(is_fate(many, ("two", ("a", "", "x"))), True)
        paper = (((0, ""), [(0, "a", "", 0)]), ((0, ""), [(0, "a", "x", 0)]), 0)
        self.assertIs(is_fate(many, ("growing", paper)), True)

    def test_tables_stay(self):
        table = copy.deepcopy(EXAMPLE_ROWS)
        machine = read_machine(EXAMPLE)
        is_rests(machine, build(machine), table)
        is_fate(machine, ("reader", build(machine), table))
        self.same(table, EXAMPLE_ROWS)


class Fate(Case):
    """Points [8] and [53]."""

    def test_kinds(self):
        kinds = []
        for machine in some_machines(177, 250):
            paper = fate(machine)
            kinds.append(paper[0])
            self.assertIs(type(paper), tuple)
            self.assertIs(is_fate(machine, paper), True)
            if two_words(machine) is not None:
                self.same(paper, ("two", two_words(machine)))
            elif growth(machine) is not None:
                self.same(paper, ("growing", growth(machine)))
            else:
                self.same((paper[0], len(paper), reader_parts(paper[1]), paper[2]),
                          ("reader", 3, reader_parts(build(machine)), rests(machine)))
        for kind in ("two", "growing", "reader"):
            self.assertGreater(kinds.count(kind), 20)

    def test_two_words_come_first(self):
        self.same(fate(TWO), ("two", ("a", "x", "y")))
        self.assertIs(is_fate(TWO, ("two", ("aa", "xy", "yy"))), True)
        self.assertIs(is_fate(TWO, ("growing", growth(TWO))), True)
        self.same(fate(FORK), ("growing", FORK_PAPER))

    def test_any_right_reader(self):
        machine = Machine("a", "x", 1, begins=[(0, "")], arcs=[(0, "a", "x", 0)], ends=[(0, "")])
        late = Reader("a", "x", "", [[("", 1)], [("x", 1)]], ["", "x"])
        self.assertIs(is_fate(machine, ("reader", late, [[(0, "")], [(0, "x")]])), True)
        self.assertIs(is_fate(machine, ("reader", late, [[(0, "")], [(0, "")]])), False)

    def test_wrong_shapes(self):
        for machine in (TWO, FORK, read_machine(EXAMPLE)):
            paper = fate(machine)
            for kind in ("two", "growing", "reader", "Two", "", None, 2, True, ["two"], ("reader",)):
                for rest in (paper[1:], paper[1:] + (None,), paper[1:2], ()):
                    right = kind == paper[0] and rest == paper[1:]
                    self.assertIs(is_fate(machine, (kind, *rest)), right)
            self.assertIs(is_fate(machine, list(paper)), False)
            self.assertIs(is_fate(machine, paper[1:]), False)

    def test_wrong_at_a_single_place(self):
        count = 0
        for machine in (TWO, FORK, machine_for_judging()):
            paper = fate(machine)
            told = {word: told_list(machine, word) for word in words_up_to("ab", 3)}
            for other in variants(paper, FILLERS + ("two", "growing", "reader")):
                right = type(other) is tuple and len(other) == 2 and (
                    same(other[0], "two") and type(other[1]) is tuple and len(other[1]) == 3
                    and type(other[1][0]) is str and other[1][0] in told
                    and all(word in told[other[1][0]] for word in other[1][1:])
                    and (len(other[1][1]), other[1][1]) < (len(other[1][2]), other[1][2])
                    or same(other[0], "growing") and really_growth(machine, other[1]))
                self.assertIs(is_fate(machine, other), right, other)
                count += not right
        self.assertGreater(count, 500)

    def test_plain_values_for_the_reader(self):
        machine = read_machine(EXAMPLE)
        table = rests(machine)
        for value in PLAIN + ("reader", EXAMPLE, ("ab", "xy", "", EXAMPLE_MOVES, [None, None, ""])):
            self.assertIs(is_fate(machine, ("reader", value, table)), False)
            self.assertIs(is_fate(machine, ("reader", value)), False)
        for value in PLAIN:
            self.assertIs(is_fate(machine, ("reader", build(machine), value)), False)

    def test_any_plain_value(self):
        for machine in (TWO, FORK, machine_for_judging(), Machine("a", "x", 0)):
            for value in PLAIN + ((), ("two",), ("growing",), ("reader",), ("two", None), ("growing", None), ("reader", None, None),
                                  ("two", ()), ("growing", (None, None, None)), ([], []), ([], [], [])):
                self.assertIs(is_fate(machine, value), False)

    def test_papers_of_other_machines(self):
        for at, machine in enumerate(some_machines(178, 60)):
            other = random_machine(seeded(at), read=machine.read)
            paper = fate(machine)
            if paper[0] == "reader":
                self.assertIs(is_fate(other, paper), really_rests(other, paper[1], paper[2]))
            elif paper[0] == "growing":
                self.assertIs(is_fate(other, paper), really_growth(other, paper[1]))

    def test_fresh(self):
        for machine in (TWO, FORK):
            before = parts(machine)
            self.fresh(lambda: fate(machine))
            self.same(parts(machine), before)
