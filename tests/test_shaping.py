"""Tests of lagbound.shaping: points [3] to [7], [26], [27] and [29]."""

import itertools

from lagbound.acceptors import Acceptor
from lagbound.errors import BadEntry, Mismatch, TooLarge
from lagbound.machines import Machine
from lagbound.shaping import renumber, restrict, trim, turn, unite, useful_states
from lagbound.wordsets import all_of, none_of
from machine_samples import machine_for_judging, random_machine
from pair_samples import numbered, parts, told_list, told_set, useful
from support import HUGE, NO_INTEGERS, Case, seeded, words_up_to
from test_acceptors import random_acceptor, ring


def machine_with(size, *, begins=(), arcs=(), ends=(), read="ab", write="xy"):
    return Machine(read, write, size, begins=begins, arcs=arcs, ends=ends)


def line(size, read="a"):
    """A machine of `size` states that takes the word of size - 1 letters."""
    arcs = [(state, "a", "x", state + 1) for state in range(size - 1)]
    return Machine(read, "x", size, begins=[(0, "")], arcs=arcs, ends=[(size - 1, "")])


def many_words(count):
    return ["x" * size for size in range(count)]


class Useful(Case):
    """Point [26]."""

    def test_by_the_relation(self):
        source = seeded(101)
        for _ in range(300):
            machine = random_machine(source, most=6)
            self.same(useful_states(machine), useful(machine))

    def test_begins_alone_and_ends_alone(self):
        # 0 and 1 are reached, 3 and 4 lead to an end, and nothing joins them.
        machine = machine_with(6, begins=[(0, "")], arcs=[(0, "a", "", 1), (3, "a", "", 4)], ends=[(4, "")])
        self.same(useful_states(machine), [])
        joined = machine_with(6, begins=[(0, "")], arcs=[(0, "a", "", 1), (3, "a", "", 4), (1, "b", "", 3)], ends=[(4, "")])
        self.same(useful_states(joined), [0, 1, 3, 4])

    def test_no_arcs_are_enough(self):
        self.same(useful_states(machine_with(3, begins=[(1, "")], ends=[(1, "x")])), [1])
        self.same(useful_states(machine_with(3, begins=[(1, "")], ends=[(2, "x")])), [])

    def test_without_states(self):
        self.same(useful_states(machine_with(0)), [])
        self.same(useful_states(machine_with(64)), [])

    def test_fresh(self):
        machine = machine_for_judging()
        self.fresh(lambda: useful_states(machine))


class Trimming(Case):
    """Point [26]."""

    def test_entries_between_useful_states(self):
        source = seeded(102)
        for _ in range(200):
            machine = random_machine(source, most=6)
            kept = useful(machine)
            place = {state: number for number, state in enumerate(kept)}
            begins = [(place[p], w) for p, w in machine.begins if p in place]
            arcs = [(place[p], a, w, place[q]) for p, a, w, q in machine.arcs if p in place and q in place]
            ends = [(place[p], w) for p, w in machine.ends if p in place]
            self.same(parts(trim(machine)), ("ab", "xy", len(kept), begins, arcs, ends))

    def test_the_same_words(self):
        source = seeded(103)
        for _ in range(60):
            machine = random_machine(source)
            trimmed = trim(machine)
            for word in words_up_to("ab", 4):
                self.assertEqual(told_set(trimmed, word), told_set(machine, word))

    def test_new_numbers_in_ascending_order(self):
        machine = machine_with(5, begins=[(4, "x")], arcs=[(4, "a", "", 1), (1, "b", "y", 4), (1, "a", "", 0)], ends=[(1, "")])
        self.same(parts(trim(machine)),
                  ("ab", "xy", 2, [(1, "x")], [(0, "b", "y", 1), (1, "a", "", 0)], [(0, "")]))

    def test_size_0(self):
        for machine in (machine_with(0), machine_with(64), machine_with(2, begins=[(0, "")], ends=[(1, "")])):
            self.same(parts(trim(machine)), ("ab", "xy", 0, [], [], []))


class Renumbering(Case):
    """Point [27]."""

    def test_state_k_becomes_order_k(self):
        machine = machine_for_judging()
        moved = renumber(machine, [1, 0])
        self.same(parts(moved), (
            "ab", "xy", 2, [(0, "y"), (1, ""), (1, "x")],
            [(0, "a", "y", 0), (0, "b", "xy", 1), (1, "a", "", 1), (1, "a", "x", 0)],
            [(0, ""), (0, "x"), (1, "yy")],
        ))

    def test_orders_that_are_not_their_own_inverse(self):
        machine = machine_with(3, begins=[(0, "x")], arcs=[(0, "a", "", 1), (1, "b", "y", 2)], ends=[(2, "yy")])
        self.same(parts(renumber(machine, [1, 2, 0])), (
            "ab", "xy", 3, [(1, "x")], [(1, "a", "", 2), (2, "b", "y", 0)], [(0, "yy")]))

    def test_all_orders(self):
        source = seeded(104)
        for _ in range(20):
            machine = random_machine(source, most=4)
            for order in itertools.permutations(range(machine.size)):
                moved = renumber(machine, list(order))
                self.same(moved.begins, sorted(((order[p], w) for p, w in machine.begins),
                                               key=lambda pair: (pair[0], len(pair[1]), pair[1])))
                self.same(sorted(moved.ends), sorted((order[p], w) for p, w in machine.ends))
                self.same(sorted(moved.arcs), sorted((order[p], a, w, order[q]) for p, a, w, q in machine.arcs))
                self.same(moved.size, machine.size)

    def test_size_0(self):
        self.same(parts(renumber(machine_with(0), [])), ("ab", "xy", 0, [], [], []))
        self.fails(BadEntry, {"place": "order", "index": None}, renumber, machine_with(0), [0])
        self.fails(BadEntry, {"place": "order", "index": None}, renumber, machine_with(0), ())

    def test_no_lists_of_the_size(self):
        machine = machine_with(2)
        for order in (None, True, 0, 2, HUGE, "", "01", (0, 1), (), [], [0], [0, 1, 2], [0, 1, 1], [None] * 3, [[0, 1]]):
            self.fails(BadEntry, {"place": "order", "index": None}, renumber, machine, order)

    def test_wrong_items(self):
        machine = machine_with(3)
        for value in NO_INTEGERS + (-1, 3, HUGE, -HUGE):
            self.fails(BadEntry, {"place": "order", "index": 0}, renumber, machine, [value, 0, 1])
            self.fails(BadEntry, {"place": "order", "index": 1}, renumber, machine, [2, value, None])
            self.fails(BadEntry, {"place": "order", "index": 2}, renumber, machine, [1, 0, value])

    def test_a_state_twice(self):
        machine = machine_with(3)
        for order, index in (([0, 0, 1], 1), ([2, 1, 2], 2), ([0, 1, 1], 2), ([1, 1, 7], 1), ([5, 0, 0], 0)):
            self.fails(BadEntry, {"place": "order", "index": index}, renumber, machine, order)

    def test_the_order_stays(self):
        order = [1, 0]
        renumber(machine_for_judging(), order)
        self.same(order, [1, 0])


class Uniting(Case):
    """Point [27]."""

    def test_all_courses_of_both(self):
        source = seeded(105)
        for _ in range(60):
            first, second = random_machine(source), random_machine(source)
            both = unite(first, second)
            for word in words_up_to("ab", 4):
                self.assertEqual(told_set(both, word), told_set(first, word) | told_set(second, word))

    def test_states_moved_up(self):
        first = machine_with(2, begins=[(1, "x")], arcs=[(0, "a", "", 1)], ends=[(0, "")])
        second = machine_with(3, begins=[(0, "")], arcs=[(0, "b", "y", 2)], ends=[(1, "x")])
        self.same(parts(unite(first, second)), (
            "ab", "xy", 5, [(1, "x"), (2, "")], [(0, "a", "", 1), (2, "b", "y", 4)], [(0, ""), (3, "x")]))
        self.same(parts(unite(second, first)), (
            "ab", "xy", 5, [(0, ""), (4, "x")], [(0, "b", "y", 2), (3, "a", "", 4)], [(1, "x"), (3, "")]))
        self.same(parts(unite(first, machine_with(0))), parts(first))
        self.same(parts(unite(machine_with(0), first)), parts(first))
        self.same(unite(first, first).begins, [(1, "x"), (3, "x")])

    def test_mismatch(self):
        machine = machine_with(40)
        for other in (machine_with(40, read="a"), machine_with(40, write="x"), machine_with(40, read="xy", write="ab")):
            self.fails(Mismatch, {}, unite, machine, other)
            self.fails(Mismatch, {}, unite, other, machine)

    def test_states_at_the_limit(self):
        self.same(unite(machine_with(32), machine_with(32)).size, 64)
        self.same(unite(machine_with(64), machine_with(0)).size, 64)
        self.fails(TooLarge, {"what": "states", "limit": 64}, unite, machine_with(32), machine_with(33))
        self.fails(TooLarge, {"what": "states", "limit": 64}, unite, machine_with(64), machine_with(1))

    def test_entries_at_the_limit(self):
        def told(count):
            words = many_words(count)
            return {"begins": [(0, word) for word in words], "ends": [(0, word) for word in words],
                    "arcs": [(0, "a", word, 0) for word in words]}
        for what in ("begins", "arcs", "ends"):
            half, rest = told(200)[what], told(201)[what]
            both = unite(machine_with(1, **{what: half}), machine_with(1, **{what: half}))
            self.same(len(getattr(both, what)), 400)
            self.fails(TooLarge, {"what": what, "limit": 400}, unite,
                       machine_with(1, **{what: half}), machine_with(1, **{what: rest}))

    def test_the_first_count_that_is_too_large(self):
        words = many_words(201)
        begins, arcs, ends = [(0, w) for w in words], [(0, "a", w, 0) for w in words], [(0, w) for w in words]
        everything = {"begins": begins, "arcs": arcs, "ends": ends}
        for whats, first in ((("begins", "arcs", "ends"), "begins"), (("arcs", "ends"), "arcs"), (("ends",), "ends")):
            machine = machine_with(1, **{what: everything[what] for what in whats})
            self.fails(TooLarge, {"what": first, "limit": 400}, unite, machine, machine)
            large = machine_with(33, **{what: everything[what] for what in whats})
            self.fails(TooLarge, {"what": "states", "limit": 64}, unite, large, large)


class Turning(Case):
    """Point [27]."""

    def test_reversed_words(self):
        source = seeded(106)
        for _ in range(80):
            machine = random_machine(source)
            turned = turn(machine)
            for word in words_up_to("ab", 4):
                self.assertEqual(told_set(turned, word[::-1]), {told[::-1] for told in told_set(machine, word)})
            self.same(parts(turn(turned)), parts(machine))

    def test_entries(self):
        machine = machine_with(3, begins=[(0, "xxy")], arcs=[(0, "b", "xyy", 1)], ends=[(2, "yx"), (2, "")])
        self.same(parts(turn(machine)), ("ab", "xy", 3, [(2, ""), (2, "xy")], [(1, "b", "yyx", 0)], [(0, "yxx")]))

    def test_full(self):
        words = many_words(400)
        machine = machine_with(1, begins=[(0, w) for w in words], arcs=[(0, "a", w, 0) for w in words], ends=[(0, "")])
        self.same(len(turn(machine).ends), 400)
        self.same(parts(turn(machine_with(0))), ("ab", "xy", 0, [], [], []))


def really_restricted(machine, acceptor):
    """Points [27] and [29], with all pairs of states tried."""
    arcs = [((p, s), a, w, (q, acceptor.moves[s][acceptor.letters.index(a)]))
            for p, a, w, q in machine.arcs for s in range(len(acceptor))]
    begins = [((p, 0), w) for p, w in machine.begins]
    ends = [((p, s), w) for p, w in machine.ends for s in acceptor.ends]
    return numbered(machine.read, machine.write, begins, arcs, ends)


class Restricting(Case):
    """Points [27] and [29]."""

    def test_told_words(self):
        source = seeded(107)
        for _ in range(80):
            machine, acceptor = random_machine(source), random_acceptor(source, "ab", 4)
            held = restrict(machine, acceptor)
            for word in words_up_to("ab", 4):
                self.assertEqual(told_list(held, word), told_list(machine, word) if word in acceptor else [])

    def test_pairs_and_their_numbers(self):
        source = seeded(108)
        for _ in range(200):
            machine, acceptor = random_machine(source, most=5), random_acceptor(source, "ab", 4)
            self.same(parts(restrict(machine, acceptor)), really_restricted(machine, acceptor))

    def test_begins_in_ascending_order(self):
        machine = machine_with(3, begins=[(2, "x"), (1, "y")], arcs=[(1, "a", "", 0)], ends=[(0, ""), (2, "")])
        self.same(parts(restrict(machine, Acceptor("ab", [[1, 0], [1, 1]], [1]))), (
            "ab", "xy", 3, [(0, "y"), (1, "x")], [(0, "a", "", 2)], [(2, "")]))

    def test_not_trimmed(self):
        machine = machine_with(2, begins=[(0, "")], arcs=[(0, "a", "x", 1)], ends=[(1, "")])
        self.same(parts(restrict(machine, none_of("ab"))), ("ab", "xy", 2, [(0, "")], [(0, "a", "x", 1)], []))

    def test_no_begins(self):
        self.same(parts(restrict(machine_with(3, ends=[(0, "")]), all_of("ab"))), ("ab", "xy", 0, [], [], []))
        self.same(parts(restrict(machine_with(0), all_of("ab"))), ("ab", "xy", 0, [], [], []))

    def test_mismatch(self):
        self.fails(Mismatch, {}, restrict, machine_with(1), all_of("a"))
        self.fails(Mismatch, {}, restrict, machine_with(1), all_of("xy"))
        self.fails(Mismatch, {}, restrict, machine_with(1, read="a"), all_of("b"))

    def test_states_at_the_limit(self):
        loop = Machine("a", "x", 1, begins=[(0, "")], arcs=[(0, "a", "x", 0)], ends=[(0, "")])
        self.same(restrict(loop, ring("a", 64, [0])).size, 64)
        self.fails(TooLarge, {"what": "states", "limit": 64}, restrict, loop, ring("a", 65, [0]))
        self.fails(TooLarge, {"what": "states", "limit": 64}, restrict, loop, ring("a", 256, [0]))
        # Pairs that are not found do not count.
        self.same(restrict(line(64), ring("a", 200, [0])).size, 64)
        begins = [(state, "") for state in range(64)]
        self.same(restrict(Machine("a", "x", 64, begins=begins), ring("a", 2, [0])).size, 64)
        arcs = [(0, "a", "", 0)]
        self.fails(TooLarge, {"what": "states", "limit": 64}, restrict,
                   Machine("a", "x", 64, begins=begins, arcs=arcs), ring("a", 2, [0]))

    def test_arcs_at_the_limit(self):
        def loops(count):
            return Machine("a", "x", 1, begins=[(0, "")], arcs=[(0, "a", word, 0) for word in many_words(count)])
        self.same(len(restrict(loops(200), ring("a", 2, [])).arcs), 400)
        self.fails(TooLarge, {"what": "arcs", "limit": 400}, restrict, loops(201), ring("a", 2, []))
        self.fails(TooLarge, {"what": "states", "limit": 64}, restrict, loops(201), ring("a", 65, []))

    def test_ends_at_the_limit(self):
        def ending(count, arcs):
            ends = [(0, word) for word in many_words(count)]
            return Machine("a", "x", 1, begins=[(0, "")], arcs=[(0, "a", w, 0) for w in many_words(arcs)], ends=ends)
        self.same(len(restrict(ending(200, 1), ring("a", 2, [0, 1])).ends), 400)
        self.same(len(restrict(ending(201, 1), ring("a", 2, [1])).ends), 201)
        self.fails(TooLarge, {"what": "ends", "limit": 400}, restrict, ending(201, 1), ring("a", 2, [0, 1]))
        self.fails(TooLarge, {"what": "arcs", "limit": 400}, restrict, ending(201, 201), ring("a", 2, [0, 1]))

    def test_nothing_passed_changes(self):
        machine, acceptor = machine_for_judging(), ring("ab", 3, [0, 2])
        before = parts(machine), acceptor.moves, acceptor.ends
        for ask in (lambda: trim(machine), lambda: renumber(machine, [1, 0]), lambda: unite(machine, machine),
                    lambda: turn(machine), lambda: restrict(machine, acceptor)):
            self.same(parts(ask()), parts(ask()))
            self.fresh(lambda: ask().arcs)
            self.same((parts(machine), acceptor.moves, acceptor.ends), before)
