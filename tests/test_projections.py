"""Tests of lagbound.projections: points [4], [6], [7] and [30]."""

from lagbound.acceptors import Acceptor, is_least_acceptor
from lagbound.errors import TooLarge
from lagbound.machines import Machine
from lagbound.projections import all_told, copying, never_told, taken
from lagbound.shaping import trim
from lagbound.wordsets import all_of
from machine_samples import machine_for_judging, random_machine
from pair_samples import last_states, parts, told_set
from support import Case, seeded, words_up_to
from test_acceptors import random_acceptor, ring, words_in

TOO_MANY = {"what": "states", "limit": 256}


def told_up_to(machine, most):
    """All told words of at most `most` letters, for read words of any length."""
    found = {(state, word) for state, word in machine.begins if len(word) <= most}
    waiting = list(found)
    while waiting:
        state, word = waiting.pop()
        for arc in machine.arcs:
            pair = (arc[3], word + arc[2])
            if arc[0] == state and len(pair[1]) <= most and pair not in found:
                found.add(pair)
                waiting.append(pair)
    told = {word + end[1] for state, word in found for end in machine.ends if end[0] == state}
    return sorted((word for word in told if len(word) <= most), key=lambda word: (len(word), word))


def backwards(count, more=()):
    """A machine that takes the words in which the letter `count` places before the end is a: 2 ** count sets of states."""
    arcs = [(0, "a", "x", 0), (0, "b", "x", 0), (0, "a", "", 1)]
    arcs += [(state, letter, "", state + 1) for state in range(1, count) for letter in "ab"]
    return Machine("abc", "x", count + 3, begins=[(0, "")], arcs=arcs + list(more), ends=[(count, "")])


class Taken(Case):
    """Point [30]."""

    def test_taken_words(self):
        source = seeded(121)
        for _ in range(150):
            machine = random_machine(source)
            acceptor = taken(machine)
            self.same(acceptor.letters, "ab")
            self.assertEqual(words_in(acceptor, 5), [word for word in words_up_to("ab", 5) if told_set(machine, word)])
            self.assertIs(is_least_acceptor(acceptor), True)

    def test_nothing_is_taken(self):
        for machine in (Machine("ab", "x", 0), Machine("ab", "x", 2, begins=[(0, "")], arcs=[(0, "a", "", 1)]),
                        Machine("ab", "x", 2, begins=[(0, "")], ends=[(1, "")])):
            self.same((taken(machine).moves, taken(machine).ends), ([[0, 0]], []))

    def test_everything_is_taken(self):
        machine = Machine("ab", "x", 1, begins=[(0, "x")], arcs=[(0, "a", "", 0), (0, "b", "x", 0)], ends=[(0, "")])
        self.same((taken(machine).moves, taken(machine).ends), (all_of("ab").moves, [0]))

    def test_sets_at_the_limit(self):
        # The letter c leads to the empty set, unless a state is kept for it.
        always = [(state, "c", "", 0) for state in range(8)]
        machine = backwards(8, [(state, "c", "", 0) for state in (0,)])
        sets = set()
        for word in words_up_to("ab", 8):
            sets.add(tuple(sorted(last_states(machine, word))))
        self.assertEqual(len(sets), 256)
        self.assertIn("abbbbbbb", taken(machine))
        self.assertNotIn("abbbbbbc", taken(backwards(8, always)))
        self.fails(TooLarge, TOO_MANY, taken, backwards(8))
        self.fails(TooLarge, TOO_MANY, taken, backwards(9, [(0, "c", "", 0)]))

    def test_states_that_are_not_useful_do_not_count(self):
        # State 9 is reached by c and leads nowhere; state 10 leads to the end and is not reached.
        more = [(0, "c", "", 0), (0, "c", "", 9), (9, "b", "", 9), (10, "a", "", 8)]
        self.same(taken(backwards(8, more)).moves, taken(backwards(8, more[:1])).moves)

    def test_a_small_answer_may_be_too_large(self):
        # Every word over a and b is taken, but 512 sets of states are found on the way.
        machine = backwards(9, [(0, "c", "", 0)])
        ends = [(state, "") for state in range(10)]
        machine = Machine("abc", "x", 12, begins=[(0, "")], arcs=machine.arcs, ends=ends)
        self.fails(TooLarge, TOO_MANY, taken, machine)


class AllTold(Case):
    """Point [30]."""

    def test_told_words(self):
        source = seeded(122)
        for _ in range(150):
            machine = random_machine(source)
            acceptor = all_told(machine)
            self.same(acceptor.letters, "xy")
            self.assertEqual(words_in(acceptor, 5), told_up_to(trim(machine), 5))
            self.assertIs(is_least_acceptor(acceptor), True)

    def test_words_of_ends_and_begins(self):
        machine = Machine("a", "xyz", 2, begins=[(0, "xy")], arcs=[(0, "a", "", 1)], ends=[(1, "zz"), (1, "")])
        self.assertEqual(words_in(all_told(machine), 5), ["xy", "xyzz"])

    def test_nothing_is_told(self):
        for machine in (Machine("a", "xy", 0), Machine("a", "xy", 2, begins=[(0, "x")], ends=[(1, "")])):
            self.same((all_told(machine).moves, all_told(machine).ends), ([[0, 0]], []))
            self.same(never_told(machine), "")

    def test_places_at_the_limit(self):
        # One set for each number of letters from 0 to n, and the empty one.
        def told(size):
            return Machine("a", "x", 1, begins=[(0, "x" * size)], ends=[(0, "")])
        self.assertIn("x" * 254, all_told(told(254)))
        self.same(len(all_told(told(254))), 256)
        self.same(never_told(told(254)), "")
        self.fails(TooLarge, TOO_MANY, all_told, told(255))
        self.fails(TooLarge, TOO_MANY, never_told, told(255))

    def test_the_empty_set_counts_only_if_some_word_gives_it(self):
        # After every word something can be written: a ring of 256 places, and 257 of them.
        def ring_of(size):
            return Machine("a", "x", 1, begins=[(0, "")], arcs=[(0, "a", "x" * size, 0)], ends=[(0, "")])
        self.same(len(all_told(ring_of(256))), 256)
        self.fails(TooLarge, TOO_MANY, all_told, ring_of(257))
        machine = Machine("a", "xy", 1, begins=[(0, "")], arcs=[(0, "a", "x" * 255, 0)], ends=[(0, "")])
        self.same(len(all_told(machine)), 256)
        machine = Machine("a", "xy", 1, begins=[(0, "")], arcs=[(0, "a", "x" * 256, 0)], ends=[(0, "")])
        self.fails(TooLarge, TOO_MANY, all_told, machine)

    def test_equal_rests_are_one_place(self):
        # After x and after y the same is still to be written; the place tells this, not the begin.
        def told(size):
            begins = [(0, "y" + "x" * size), (0, "x" + "x" * size)]
            return Machine("a", "xy", 1, begins=begins, ends=[(0, "")])
        self.assertIn("y" + "x" * 253, all_told(told(253)))
        self.fails(TooLarge, TOO_MANY, all_told, told(254))

    def test_rests_of_unlike_states_are_unlike_places(self):
        # With equal words behind x and y, but at two states, there are twice as many sets.
        def told(size):
            begins = [(0, "y" + "x" * size), (1, "x" + "x" * size)]
            return Machine("a", "xy", 2, begins=begins, ends=[(0, ""), (1, "")])
        self.assertIn("y" + "x" * 126, all_told(told(126)))
        self.fails(TooLarge, TOO_MANY, all_told, told(127))

    def test_a_word_of_an_end_is_a_place_of_its_own(self):
        # What a state is still to write and what its end is still to write are unlike places.
        def told(size):
            return Machine("a", "xy", 2, begins=[(0, "y" + "x" * size), (1, "x")], ends=[(0, ""), (1, "x" * size)])
        self.assertIn("x" + "x" * 126, all_told(told(126)))
        self.fails(TooLarge, TOO_MANY, all_told, told(127))

    def test_states_that_are_not_useful_do_not_count(self):
        machine = Machine("a", "x", 3, begins=[(0, "x" * 254), (1, "x" * 400)], arcs=[(1, "a", "x", 1)], ends=[(0, "")])
        self.same(len(all_told(machine)), 256)

    def test_loops_that_write_nothing(self):
        machine = Machine("a", "x", 2, begins=[(0, "")], arcs=[(0, "a", "", 1), (1, "a", "", 0), (1, "a", "x", 1)],
                          ends=[(0, "x")])
        self.assertEqual(words_in(all_told(machine), 4), ["x", "xx", "xxx", "xxxx"])
        self.same(never_told(machine), "")

    def test_long_words(self):
        machine = Machine("a", "xy", 1, begins=[(0, "")], arcs=[(0, "a", "xy" * 100, 0)], ends=[(0, "y")])
        self.assertIn("xy" * 200 + "y", all_told(machine))
        self.assertNotIn("xy" * 200, all_told(machine))


class NeverTold(Case):
    """Point [30]."""

    def test_least_words(self):
        source = seeded(123)
        for _ in range(150):
            machine = random_machine(source)
            told = told_up_to(machine, 5)
            missing = [word for word in words_up_to("xy", 5) if word not in told]
            if missing:
                self.same(never_told(machine), missing[0])

    def test_all_words_are_told(self):
        arcs = [(0, "a", "x", 0), (0, "b", "y", 0)]
        self.assertIsNone(never_told(Machine("ab", "xy", 1, begins=[(0, "")], arcs=arcs, ends=[(0, "")])))
        self.same(never_told(Machine("ab", "xyz", 1, begins=[(0, "")], arcs=arcs, ends=[(0, "")])), "z")
        self.same(never_told(Machine("ab", "xy", 1, begins=[(0, "x")], arcs=arcs, ends=[(0, ""), (0, "y")])), "")


class Copying(Case):
    """Point [30]."""

    def test_takes_and_tells_what_is_accepted(self):
        source = seeded(124)
        for _ in range(60):
            acceptor = random_acceptor(source, "ab", 5)
            machine = copying(acceptor)
            for word in words_up_to("ab", 4):
                self.assertEqual(told_set(machine, word), {word} if word in acceptor else set())

    def test_entries(self):
        acceptor = Acceptor("pq", [[1, 0], [2, 2], [2, 0]], [0, 2])
        self.same(parts(copying(acceptor)), (
            "pq", "pq", 3, [(0, "")],
            [(0, "p", "p", 1), (0, "q", "q", 0), (1, "p", "p", 2), (1, "q", "q", 2), (2, "p", "p", 2), (2, "q", "q", 0)],
            [(0, ""), (2, "")],
        ))

    def test_64_and_65_states(self):
        machine = copying(ring("abcd", 64, list(range(64))))
        self.same((machine.size, len(machine.arcs), len(machine.ends)), (64, 256, 64))
        self.fails(TooLarge, {"what": "states", "limit": 64}, copying, ring("a", 65, [0]))
        self.fails(TooLarge, {"what": "states", "limit": 64}, copying, ring("a", 256, []))

    def test_fresh(self):
        machine, acceptor = machine_for_judging(), ring("ab", 3, [1])
        before = parts(machine)
        for ask in (lambda: taken(machine).moves, lambda: all_told(machine).moves, lambda: copying(acceptor).arcs):
            self.fresh(ask)
        self.same(parts(machine), before)
