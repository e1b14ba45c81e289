"""Tests of lagbound.waiting: points [4] to [8], [66] and [67]."""

from lagbound.errors import BadNumber, BadWord, Growing, TooLarge, TwoWords
from lagbound.growth import growth
from lagbound.machines import Machine
from lagbound.machinetext import read_machine
from lagbound.onlyone import two_words
from lagbound.readers import Reader, empty_reader, reader_machine
from lagbound.rests import build, rests
from lagbound.waiting import greatest_held, greatest_wait, rest_after, wait_word
from pair_samples import last_states, parts, row_over, useful, written_by_state
from reader_samples import common_by, random_reader, reader_parts, wheel, walk
from support import HUGE, NO_NUMBERS, NO_TEXTS, Case, seeded, words_up_to
from test_growth import FORK, FORK_PAPER
from test_rests import EXAMPLE, TWO, good_machines, two_rests
from test_square import PAIRS, STEPS, fan, loops

NOTHING = (Machine("ab", "xy", 0), Machine("ab", "xy", 2, begins=[(0, "xx")], arcs=[(0, "a", "x", 0)], ends=[(1, "")]))


def waits_by(machine, most):
    """Point [67]: pairs of a read word of at most `most` letters and its wait, in the word order."""
    found = []
    for word in words_up_to(machine.read, most):
        row = row_over(machine, word)
        if row or word == "" and not useful(machine):
            found.append((word, max([len(rest) for _, rest in row] or [0])))
    return found


class Held(Case):
    """Point [66]."""

    def test_random_readers(self):
        source = seeded(261)
        found = {True: 0, False: 0}
        for _ in range(300):
            reader = random_reader(source, most=4, full=source.choice((0.4, 0.7, 0.9)))
            reached = [(walk(reader, word), word) for word in words_up_to(reader.read, 4)]
            held = [(len(reader.finals[run[1]]), word) for run, word in reached if run and reader.finals[run[1]] is not None]
            expected = max(held, key=lambda pair: pair[0], default=None)
            self.same(greatest_held(reader), expected)
            found[expected is None or expected[1] == ""] += 1
        self.assertGreater(min(found.values()), 50)

    def test_edges(self):
        self.assertIsNone(greatest_held(empty_reader("a", "x")))
        self.assertIsNone(greatest_held(Reader("a", "x", "x", [[("x", 0)], [None]], [None, "xxx"])))
        self.same(greatest_held(Reader("a", "x", "", [[None]], [""])), (0, ""))
        self.same(greatest_held(Reader("a", "x", "x", [[("x", 0)], [None]], ["x", "xxx"])), (1, ""))
        # The least word counts, not the first state: state 2 is reached by a, state 1 by b.
        reader = Reader("ab", "x", "", [[("", 2), ("", 1)], [None, None], [None, None]], ["", "xx", "xx"])
        self.same(greatest_held(reader), (2, "a"))
        # A state that cannot be left counts, and what cannot be reached does not.
        self.same(greatest_held(wheel(64, lambda state: "x", lambda state: "y" * (state * 6))), (378, "a" * 63))
        self.same(greatest_held(Reader("a", "x", "", [[None]], ["x" * 400])), (400, ""))


class Rest(Case):
    """Point [67]: rest_after."""

    def test_random_machines(self):
        some = 0
        for machine in good_machines(262, 150):
            for word in words_up_to(machine.read, 4):
                row = row_over(machine, word)
                if not row:
                    self.assertIsNone(rest_after(machine, word))
                else:
                    shared = common_by(written for _, written in written_by_state(machine, word))
                    self.same(rest_after(machine, word), (shared, row))
                    some += len(row) > 1
        self.assertGreater(some, 100)

    def test_like_build_and_rests(self):
        for machine in good_machines(263, 60):
            reader, table = build(machine), rests(machine)
            for word in words_up_to(machine.read, 3):
                state = reader.state_after(word)
                expected = None if state is None else (reader.written_after(word), table[state])
                self.same(rest_after(machine, word), expected)

    def test_the_example(self):
        machine = read_machine(EXAMPLE)
        self.same([rest_after(machine, word) for word in ("", "a", "aa", "b", "aab")], [
            ("", [(0, "")]), ("", [(1, "x"), (2, "y")]), ("y", [(3, "")]), None, None])

    def test_machines_that_take_nothing(self):
        for machine in NOTHING:
            self.same(rest_after(machine, ""), ("", []))
            for word in ("a", "b", "ab", "a" * 4000):
                self.assertIsNone(rest_after(machine, word))
            self.same(greatest_wait(machine), (0, ""))
            self.same(wait_word(machine, 0), "")
            self.assertIsNone(wait_word(machine, 1))

    def test_long_words(self):
        machine = reader_machine(Reader("a", "xy", "y", [[("xy" * 200, 0)]], [""]))
        self.same(rest_after(machine, "a" * 4000), ("y" + "xy" * 800000, [(0, "")]))

    def test_wrong_words_come_first(self):
        for machine in (read_machine(EXAMPLE), NOTHING[0], TWO, FORK, fan(41), loops(64)):
            for value in NO_TEXTS + ("x", "-", "a b", "A", "a" * 4001, "a\n"):
                self.fails_with(BadWord, value, rest_after, machine, value)

    def test_fresh(self):
        machine = read_machine(EXAMPLE)
        before = parts(machine)
        self.fresh(lambda: rest_after(machine, "a"))
        self.fresh(lambda: rest_after(NOTHING[0], ""))
        self.same(parts(machine), before)


class Waits(Case):
    """Point [67]: greatest_wait and wait_word."""

    def test_random_machines(self):
        long = 0
        for machine in good_machines(264, 500):
            told = waits_by(machine, 6)
            word, length = max(told, key=lambda pair: pair[1])
            self.same(greatest_wait(machine), (length, word))
            for least in range(length + 2):
                expected = next((word for word, wait in told if wait >= least), None)
                self.same(wait_word(machine, least), expected)
            long += length > 1
        self.assertGreater(long, 20)

    def test_the_example(self):
        machine = read_machine(EXAMPLE)
        self.same(greatest_wait(machine), (1, "a"))
        self.same([wait_word(machine, length) for length in (0, 1, 2, 4000)], ["", "a", None, None])

    def test_least_words(self):
        # After b the wait is 1, after aa and ab 3, after ba 2.
        arcs = [(0, "a", "", 1), (0, "b", "x", 2), (0, "b", "", 3), (1, "a", "xxx", 4), (1, "a", "", 5), (1, "b", "yyy", 4),
                (1, "b", "", 5), (2, "a", "x", 4), (3, "a", "", 5), (4, "a", "", 6), (5, "b", "", 6)]
        machine = Machine("ab", "xy", 7, begins=[(0, "")], arcs=arcs, ends=[(6, "")])
        self.same(greatest_wait(machine), (3, "aa"))
        self.same([wait_word(machine, length) for length in range(5)], ["", "b", "aa", "aa", None])

    def test_long_waits(self):
        machine = two_rests("x" * 399, "")
        self.same(greatest_wait(machine), (400, "a"))
        self.same([wait_word(machine, length) for length in (400, 401, 4000)], ["a", None, None])
        # Rests may be longer than a written word: one course writes at once what the other one writes later, in pieces.
        word = "x" * 400
        arcs = [(0, "a", word, 1), (1, "a", word, 2), (2, "a", "", 3), (3, "a", "", 4)]
        arcs += [(0, "a", "", 5), (5, "a", "", 6), (6, "a", word, 7), (7, "a", word, 8)]
        machine = Machine("a", "x", 9, begins=[(0, "")], arcs=arcs, ends=[(4, ""), (8, "")])
        self.same(greatest_wait(machine), (800, "aa"))
        self.same([wait_word(machine, length) for length in (0, 1, 400, 401, 800, 801)], ["", "a", "a", "aa", "aa", None])
        self.same(rest_after(machine, "aaa"), (word, [(3, word), (7, "")]))
        # Where a single move would write such a rest, build refuses.
        step = [(0, "a", "x" * 400, 1), (0, "a", "y", 2), (1, "a", "x" * 400, 3), (2, "a", "", 4), (3, "b", "", 5), (4, "c", "", 5)]
        large = Machine("abc", "xy", 6, begins=[(0, "")], arcs=step, ends=[(5, "")])
        self.too_large("written", 400, large)

    def too_large(self, what, limit, machine):
        told = {"what": what, "limit": limit}
        self.fails(TooLarge, told, rest_after, machine, "")
        self.fails(TooLarge, told, greatest_wait, machine)
        self.fails(TooLarge, told, wait_word, machine, 0)

    def test_wrong_lengths_come_first(self):
        for machine in (read_machine(EXAMPLE), NOTHING[0], TWO, FORK, fan(41)):
            for value in NO_NUMBERS + (4001, HUGE * HUGE):
                self.fails_with(BadNumber, value, wait_word, machine, value)

    def test_machines_that_build_refuses(self):
        for machine, error, told in (
            (TWO, TwoWords, {"paper": two_words(TWO)}), (FORK, Growing, {"paper": FORK_PAPER}), (fan(41), TooLarge, PAIRS),
            (loops(64), TooLarge, STEPS), (loops(2), TwoWords, {"paper": two_words(loops(2))}),
        ):
            self.fails(error, told, build, machine)
            self.fails(error, told, rest_after, machine, "")
            self.fails(error, told, greatest_wait, machine)
            self.fails(error, told, wait_word, machine, 0)
        arcs = [(0, "a", "", 0), (0, "b", "", 0), (0, "a", "", 1)]
        arcs += [(state, letter, "", state + 1) for state in range(1, 7) for letter in "ab"]
        self.too_large("states", 64, Machine("abc", "x", 8, begins=[(0, "")], arcs=arcs, ends=[(7, "")]))

    def test_what_the_rows_tell(self):
        for machine in good_machines(265, 60):
            table, reader = rests(machine), build(machine)
            before = parts(machine), reader_parts(reader)
            length, word = greatest_wait(machine)
            self.same(length, max([len(rest) for row in table for _, rest in row] or [0]))
            self.assertEqual([state for state, _ in rest_after(machine, word)[1]], sorted(last_states(machine, word)))
            self.same(greatest_wait(machine), (length, word))
            self.assertIsNone(growth(machine))
            self.same((parts(machine), reader_parts(reader)), before)
