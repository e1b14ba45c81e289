"""Tests of lagbound.alike: points [4] to [8] and [55] to [58]."""

from lagbound.alike import alike, alike_table, is_alike_table, is_parting, parting, reader_parting
from lagbound.errors import Mismatch, TooLarge, TwoWords
from lagbound.growth import growth
from lagbound.machines import Machine
from lagbound.onlyone import one_lag_table, two_words
from lagbound.readers import Reader, empty_reader, reader_machine
from lagbound.rests import build
from lagbound.shaping import turn, unite
from machine_samples import machine_for_judging, random_machine, variants
from pair_samples import (all_meeting, all_pairs, all_steps, lockstep_machine, pair_machine, parts, really_one_lag, told_list,
                          told_set)
from reader_samples import disguised, full_reader, random_reader, reader_parts, spoilt_reader, told_by, wheel
from support import HUGE, NO_TEXTS, Case, lists_in, seeded, spoil, words_up_to
from test_square import PAIRS, STEPS, fan, loops

STATES = {"what": "states", "limit": 256}
TWO = Machine("ab", "xy", 1, begins=[(0, "")], arcs=[(0, "a", "x", 0), (0, "a", "y", 0)], ends=[(0, "")])
ONE = Machine("ab", "xy", 1, begins=[(0, "")], arcs=[(0, "a", "x", 0)], ends=[(0, "")])
FILLERS = (True, False, None, 0, 1, HUGE, "", "a", "x", "xy", "c", "b" * 5000, [], (), ("", "", ""), ["x"])


def ring(size, read="a", word=""):
    """A machine of so many states in a round with one course for each word."""
    arcs = [(state, letter, word, (state + 1) % size) for state in range(size) for letter in read]
    return Machine("abc", "xy", size, begins=[(0, "")], arcs=arcs, ends=[(state, "") for state in range(size)])


def late_letter(places, letters="abc", word=""):
    """A machine that takes the words with an a so many places before the end; it needs a set for each subset of places."""
    arcs = [(0, "a", "", 0), (0, "b", "", 0), (0, "a", "", 1)]
    arcs += [(state, letter, "", state + 1) for state in range(1, places) for letter in "ab"]
    return Machine(letters, "xy", places + 1, begins=[(0, "")], arcs=arcs, ends=[(places, word)])


def changed(source, machine):
    """The machine with one entry more or less, or the word of one entry changed."""
    begins, arcs, ends = machine.begins, machine.arcs, machine.ends
    rows = source.choice([rows for rows in (begins, arcs, arcs, ends) if rows] or [[]])
    if rows:
        at = source.randrange(len(rows))
        row = list(rows[at])
        row[2 if len(row) == 4 else 1] = source.choice(("", "x", "y", "xy"))
        rows[at:at + 1] = [tuple(row)] if source.random() < 0.8 else []
    return Machine(machine.read, machine.write, machine.size, begins=begins, arcs=arcs, ends=ends)


def two_machines(number, count):
    """Pairs of machines with the same alphabets, many of them alike or almost so."""
    source = seeded(number)
    for at in range(count):
        if at % 3 == 0:
            reader = full_reader(source, most=4)
            other = disguised(source, reader)
            yield reader_machine(reader), reader_machine(spoilt_reader(source, other) if source.random() < 0.7 else other)
            continue
        first = (lockstep_machine, pair_machine, lockstep_machine, random_machine)[at % 4](source, most=3)
        kind = source.random()
        if kind < 0.3 and two_words(first) is None and growth(first) is None:
            second = reader_machine(build(first))
        elif kind < 0.5:
            second = unite(first, Machine("ab", "xy", 0))
        else:
            second = lockstep_machine(source, most=3) if kind < 0.6 else turn(turn(first))
        yield first, changed(source, second) if source.random() < 0.5 else second


def single(number, count):
    return [pair for pair in two_machines(number, count) if not any(two_words(machine) for machine in pair)]


def first_parting(first, second, most):
    """Point [56]: the paper with the least word of at most `most` letters, or None, for machines that tell one word."""
    for word in words_up_to(first.read, most):
        told = [(told_list(machine, word) or [None])[0] for machine in (first, second)]
        if told[0] != told[1]:
            return (word, *told)
    return None


class Parting(Case):
    """Points [55] and [56]."""

    def test_the_least_word(self):
        found = {}
        for first, second in single(211, 500):
            paper = parting(first, second)
            expected = first_parting(first, second, 5)
            if expected is None and paper is not None:
                self.assertGreater(len(paper[0]), 5)
            else:
                self.same(paper, expected)
            self.assertIs(alike(first, second), paper is None)
            if paper is not None:
                self.assertIs(is_parting(first, second, paper), True)
                self.same(parting(second, first), (paper[0], paper[2], paper[1]))
            found[paper and len(paper[0])] = found.get(paper and len(paper[0]), 0) + 1
        self.assertGreater(found[None], 60)
        self.assertGreater(found[1], 20)
        self.assertGreater(sum(found.get(size, 0) for size in (2, 3, 4)), 20)

    def test_a_machine_and_itself(self):
        for first, _ in single(212, 80):
            self.assertIsNone(parting(first, first))
            self.assertIs(alike(first, first), True)

    def test_machines_that_take_nothing(self):
        nothing = Machine("ab", "xy", 0)
        never = Machine("ab", "xy", 2, begins=[(0, "x")], arcs=[(0, "a", "y", 0)], ends=[(1, "")])
        for first in (nothing, never):
            for second in (nothing, never):
                self.assertIsNone(parting(first, second))
        self.same(parting(nothing, ONE), ("", None, ""))
        self.same(parting(ONE, never), ("", "", None))
        later = Machine("ab", "xy", 2, begins=[(0, "x")], arcs=[(0, "b", "", 1)], ends=[(1, "y")])
        self.same(parting(never, later), ("b", None, "xy"))

    def test_taken_or_told_first(self):
        # The words part at aa, and only the first machine takes ab.
        arcs = [(0, "a", "x", 1), (1, "a", "x", 2), (1, "b", "", 2)]
        first = Machine("ab", "xy", 3, begins=[(0, "")], arcs=arcs, ends=[(2, "")])
        second = Machine("ab", "xy", 3, begins=[(0, "")], arcs=[(0, "a", "y", 1), (1, "a", "x", 2)], ends=[(2, "")])
        self.same(parting(first, second), ("aa", "xx", "yx"))
        # Only one takes a, and they tell unlike words for ab.
        third = Machine("ab", "xy", 3, begins=[(0, "")], arcs=arcs, ends=[(1, ""), (2, "y")])
        self.same(parting(first, third), ("a", None, "x"))

    def test_long_words(self):
        # Rings of 61 and 60 states that end everywhere, and tell otherwise at the last state alone.
        def counted(size, last):
            machine = ring(size)
            return Machine("abc", "xy", size, begins=[(0, "")], arcs=machine.arcs, ends=machine.ends[:-1] + [(size - 1, last)])
        self.same(parting(counted(30, ""), counted(29, "")), None)
        self.same(parting(counted(30, "x"), counted(29, "")), ("a" * 29, "x", ""))

    def test_more_than_4000_letters_written(self):
        word = "xy" * 200
        arcs = [(state, "a", word, state + 1) for state in range(40)]
        first = Machine("a", "xy", 41, begins=[(0, "")], arcs=arcs, ends=[(40, "")])
        second = Machine("a", "xy", 41, begins=[(0, "")], arcs=arcs, ends=[(40, "x")])
        self.same(parting(first, second), ("a" * 40, word * 40, word * 40 + "x"))

    def test_nothing_is_changed(self):
        for first, second in single(213, 20):
            before = parts(first), parts(second)
            self.same(parting(first, second), parting(first, second))
            self.same((parts(first), parts(second)), before)


class PartingErrors(Case):
    """Point [56]: the order of the errors."""

    def fails_both(self, error, told, first, second):
        for function in (parting, alike):
            self.fails(error, told, function, first, second)

    def test_mismatch_is_first(self):
        for read, write in (("a", "xy"), ("ab", "x"), ("xy", "ab"), ("abc", "xy")):
            other = Machine(read, write, 0)
            for first, second in ((other, TWO), (TWO, other), (loops(64), other), (other, fan(41))):
                self.fails_both(Mismatch, {}, first, second)

    def test_the_first_machine_comes_before_the_second(self):
        two, three = {"paper": two_words(TWO)}, {"paper": two_words(machine_for_judging())}
        for second in (ONE, machine_for_judging(), fan(41), loops(64)):
            self.fails_both(TwoWords, two, TWO, second)
        self.fails_both(TwoWords, three, machine_for_judging(), TWO)
        self.fails_both(TwoWords, two, ONE, TWO)
        for second in (TWO, ONE, loops(64), fan(41)):
            self.fails_both(TooLarge, PAIRS, fan(41), second)
        for second in (TWO, ONE, fan(41), loops(64)):
            self.fails_both(TooLarge, STEPS, loops(64), second)
        self.fails_both(TooLarge, PAIRS, ONE, fan(41))
        self.fails_both(TooLarge, STEPS, ONE, loops(64))

    def test_the_twin_pairs_of_both(self):
        self.same(parting(ring(40), ring(39)), None)
        self.same(parting(ring(41, "a"), ring(39)), None)
        self.fails_both(TooLarge, PAIRS, ring(41), ring(40))
        self.fails_both(TooLarge, STEPS, ring(37, "abc"), ring(38, "abc"))
        self.same(alike(ring(36, "abc"), ring(37, "abc")), True)

    def test_two_words_come_before_the_twin_pairs_of_both(self):
        many = ring(41)
        two = Machine("abc", "xy", 40, begins=[(0, "")], arcs=ring(40).arcs, ends=[(state, "") for state in range(40)] + [(9, "x")])
        self.fails_both(TwoWords, {"paper": two_words(two)}, many, two)
        self.fails_both(TwoWords, {"paper": two_words(two)}, two, many)

    def test_taken_comes_last(self):
        large = late_letter(9)
        self.same(two_words(large), None)
        self.fails_both(TooLarge, STATES, large, Machine("abc", "xy", 0))
        self.fails_both(TooLarge, STATES, Machine("abc", "xy", 0), large)
        self.fails_both(TooLarge, STATES, large, ring(3))
        self.fails_both(TooLarge, PAIRS, large, fan_of_abc(41))
        self.fails_both(TwoWords, {"paper": two_words(late_two())}, large, late_two())
        self.same(parting(late_letter(8, "ab"), late_letter(8, "ab", "x")), ("a" + "a" * 7, "", "x"))
        # The least clash is found, but the error is due.
        self.fails_both(TooLarge, STATES, late_letter(9), late_letter(9, word="x"))

    def test_the_paper_of_two_words_is_a_copy(self):
        first = self.fails(TwoWords, {}, parting, TWO, ONE)
        self.same(first.paper, two_words(TWO))


def fan_of_abc(size):
    return Machine("abc", "xy", size, begins=[(state, "") for state in range(size)], ends=[(state, "") for state in range(size)])


def late_two():
    machine = late_letter(9)
    return Machine("abc", "xy", 10, begins=machine.begins, arcs=machine.arcs, ends=[(9, ""), (9, "x")])


def really_parting(first, second, paper):
    """Point [55]."""
    if type(paper) is not tuple or len(paper) != 3 or type(paper[0]) is not str or set(paper[0]) - set(first.read):
        return False
    if paper[1] is paper[2] or type(paper[1]) is type(paper[2]) and paper[1] == paper[2]:
        return False
    for machine, told in zip((first, second), paper[1:]):
        words = told_set(machine, paper[0])
        if len(words) > 1 or (told is None) != (not words) or told is not None and (type(told) is not str or {told} != words):
            return False
    return True


class JudgingPartings(Case):
    """Points [8] and [55]."""

    def test_wrong_at_a_single_place(self):
        right = wrong = 0
        for first, second in two_machines(214, 240):
            for word in words_up_to(first.read, 3)[::2]:
                told = [(told_list(machine, word) or [None])[0] for machine in (first, second)]
                papers = [(word, *told)]
                if told[0] != told[1]:
                    papers += list(variants(papers[0], FILLERS[:12]))
                for paper in papers:
                    if isinstance(paper, tuple) and paper and len(str(paper[0])) > 100:
                        continue
                    expected = really_parting(first, second, paper)
                    self.assertIs(is_parting(first, second, paper), expected, paper)
                    right += expected
                    wrong += not expected
        self.assertGreater(right, 150)
        self.assertGreater(wrong, 3000)

    def test_two_told_words(self):
        # Several courses may tell the only word; with a second told word no paper is right.
        several = Machine("ab", "xy", 2, begins=[(0, ""), (1, "")], arcs=[(0, "a", "x", 0), (1, "a", "x", 1)],
                          ends=[(0, ""), (1, "")])
        self.assertIs(is_parting(several, Machine("ab", "xy", 0), ("a", "x", None)), True)
        self.assertIs(is_parting(TWO, ONE, ("a", "y", "x")), False)
        self.assertIs(is_parting(ONE, TWO, ("a", "x", "y")), False)
        self.assertIs(is_parting(TWO, ONE, ("a", None, "x")), False)
        self.assertIs(is_parting(TWO, ONE, ("b", None, "")), False)
        self.assertIs(is_parting(TWO, Machine("ab", "xy", 0), ("", "", None)), True)

    def test_other_alphabets(self):
        paper = ("", "", None)
        self.assertIs(is_parting(ONE, Machine("ab", "xy", 0), paper), True)
        for read, write in (("a", "xy"), ("ab", "x"), ("xy", "ab")):
            self.assertIs(is_parting(ONE, Machine(read, write, 0), paper), False)
            self.assertIs(is_parting(Machine(read, write, 0), ONE, ("", None, "")), False)

    def test_no_twin_pairs_are_needed(self):
        for machine in (fan(41), loops(64), fan(64, [(state, "a", "", 0) for state in range(64)])):
            self.assertIs(is_parting(machine, Machine("ab", "xy", 0), ("", "", None)), True)
            self.assertIs(is_parting(machine, machine, ("", "", "")), False)

    def test_words_of_any_length(self):
        word = "a" * 6000
        self.assertIs(is_parting(ONE, Machine("ab", "xy", 0), (word, "x" * 6000, None)), True)
        self.assertIs(is_parting(ONE, Machine("ab", "xy", 0), (word, "x" * 5999, None)), False)

    def test_wrong_kinds(self):
        for paper in NO_TEXTS + ("", "abc", ("", ""), ("", "", None, None), ["", "", None], (None, "", None), ("", None, None),
                                 (("",), "", None), ("", ("",), None), ("", "", False), ("", "", 0), ("c", None, ""),
                                 ("", "", []), ("", "z", None), (0, "", None), ("A", None, None), ("\n", "", None)):
            self.assertIs(is_parting(ONE, Machine("ab", "xy", 0), paper), False, paper)


class AlikeTables(Case):
    """Points [8] and [57]."""

    def test_the_table(self):
        count = 0
        for first, second in two_machines(215, 250):
            one = not any(two_words(machine) for machine in (first, second))
            table = alike_table(first, second)
            self.assertEqual(table is not None, one and alike(first, second))
            if table is not None:
                pairs = all_pairs(first, second)
                meeting = all_meeting(first, second, pairs)
                self.assertTrue(really_one_lag(first, second, meeting, all_steps(first, second, pairs), table))
                self.same(table, one_lag_table(first, other=second))
                self.assertIs(is_alike_table(first, second, table), True)
                count += bool(table)
            elif one:
                told = one_lag_table(first, other=second)
                self.assertIs(is_alike_table(first, second, told), False)
        self.assertGreater(count, 50)

    def test_machines_that_take_nothing(self):
        nothing, never = Machine("ab", "xy", 0), Machine("ab", "xy", 1, begins=[(0, "")])
        for first in (nothing, never):
            for second in (nothing, never):
                self.same(alike_table(first, second), [])
                self.assertIs(is_alike_table(first, second, []), True)
                self.assertIs(is_alike_table(first, second, ()), False)
                self.assertIs(is_alike_table(first, second, None), False)
        self.assertIsNone(alike_table(nothing, ONE))
        self.assertIs(is_alike_table(nothing, ONE, []), False)
        self.assertIs(is_alike_table(ONE, nothing, []), False)

    def test_wrong_at_a_single_place(self):
        count = 0
        tables = [(first, second, alike_table(first, second)) for first, second in single(216, 200)]
        for first, second, table in [row for row in tables if row[2] and len(row[2]) < 6][:30]:
            pairs = all_pairs(first, second)
            meeting, steps = all_meeting(first, second, pairs), all_steps(first, second, pairs)
            for paper in variants(table, (True, False, None, 0, 1, -1, HUGE, "", "x", "y", "z", [], (), (0, 0, "", ""))):
                right = really_one_lag(first, second, meeting, steps, paper)
                self.assertIs(is_alike_table(first, second, paper), right, paper)
                count += not right
        self.assertGreater(count, 3000)

    def test_errors(self):
        for table in (None, [], [(0, 0, "", "")], 7):
            for other in (Machine("a", "xy", 0), Machine("ab", "x", 0)):
                self.fails(Mismatch, {}, alike_table, fan(41), other)
                self.fails(Mismatch, {}, alike_table, other, loops(64))
                self.assertIs(is_alike_table(fan(41), other, table), False)
                self.assertIs(is_alike_table(other, loops(64), table), False)
            for first, second, error in (
                (ring(41), ring(40), PAIRS), (ring(37, "abc"), ring(38, "abc"), STEPS), (fan(41), fan(40), PAIRS),
                (loops(64), loops(63), STEPS), (late_letter(9), ring(3), STATES), (ring(3), late_letter(9), STATES),
                (late_letter(9), late_letter(9, word="x"), STATES), (late_two(), late_two(), STATES),
                (late_letter(9), Machine("abc", "xy", 0), STATES),
            ):
                self.fails(TooLarge, error, alike_table, first, second)
                self.fails(TooLarge, error, is_alike_table, first, second, table)
        # Two told words raise nothing here.
        self.assertIsNone(alike_table(TWO, TWO))
        self.assertIs(is_alike_table(TWO, TWO, [(0, 0, "", "")]), False)
        # The machine alone would have too many twin pairs, but not together with the other one.
        self.assertIsNone(alike_table(fan(41), Machine("ab", "xy", 0)))
        self.same(len(alike_table(fan(41), fan(39))), 1599)

    def test_fresh(self):
        self.fresh(lambda: alike_table(ring(3), ring(2)))
        table = alike_table(ring(3), ring(2))
        is_alike_table(ring(3), ring(2), table)
        self.same(table, [(p, q, "", "") for p in range(3) for q in range(2)])


class ReaderParting(Case):
    """Point [58]."""

    def first_parting(self, first, second, most):
        for word in words_up_to(first.read, most):
            told = told_by(first, word), told_by(second, word)
            if told[0] != told[1]:
                return (word, *told)
        return None

    def test_random_readers(self):
        source = seeded(217)
        for _ in range(400):
            first, second = random_reader(source, most=3), random_reader(source, most=2)
            self.same(reader_parting(first, second), self.first_parting(first, second, 9 if len(first) > 2 else 7))

    def test_readers_that_are_almost_alike(self):
        source = seeded(218)
        sizes = {}
        for at in range(400):
            first = full_reader(source, read="a" if at % 2 else "ab", most=4 if at % 2 else 3)
            second = disguised(source, first)
            self.assertIsNone(reader_parting(first, second))
            self.assertIsNone(reader_parting(second, first))
            second = spoilt_reader(source, second)
            most = 2 * len(first) + 2 * len(second) - 1
            paper = reader_parting(first, second)
            self.same(paper, self.first_parting(first, second, most if at % 2 else min(most, 8)))
            if paper is not None:
                self.assertLessEqual(len(paper[0]), most)
                self.assertIs(is_parting(reader_machine(first), reader_machine(second), paper), True)
                sizes[len(paper[0])] = sizes.get(len(paper[0]), 0) + 1
        self.assertGreater(sum(count for size, count in sizes.items() if size > 2), 30)

    def test_like_the_machines(self):
        source = seeded(219)
        for _ in range(150):
            first = random_reader(source)
            second = disguised(source, first) if source.random() < 0.3 else random_reader(source)
            self.same(reader_parting(first, second), parting(reader_machine(first), reader_machine(second)))

    def test_64_states(self):
        for word in ("", "x", "xy" * 200):
            first = wheel(64, lambda state: word, lambda state: "")
            second = wheel(63, lambda state: word, lambda state: "")
            self.assertIsNone(reader_parting(first, second))
            late = wheel(63, lambda state: word, lambda state: "y" if state == 62 else "")
            self.same(reader_parting(first, late), ("a" * 62, word * 62, word * 62 + "y"))
            turned = wheel(64, lambda state: word, lambda state: "y" if state == 63 else "")
            self.same(reader_parting(late, turned)[0], "a" * 62)
        # All 4032 pairs of states are reached before one word ends both readers.
        first = wheel(64, lambda state: "", lambda state: "" if state == 0 else None)
        second = wheel(63, lambda state: "", lambda state: "x" if state == 0 else None)
        self.same(reader_parting(first, second), ("", "", "x"))
        second = wheel(63, lambda state: "", lambda state: "" if state == 0 else None)
        self.same(reader_parting(first, second), ("a" * 63, None, ""))
        # One writes all at once, the other one as late as it can.
        first = wheel(64, lambda state: "xx" if state == 0 else "", lambda state: "" if state == 0 else None)
        second = wheel(64, lambda state: "xx" if state == 63 else "", lambda state: "" if state == 0 else None)
        self.assertIsNone(reader_parting(first, second))
        third = wheel(64, lambda state: "xy" if state == 63 else "", lambda state: "" if state == 0 else None)
        self.same(reader_parting(first, third), ("a" * 64, "xx", "xy"))

    def test_many_pairs_and_letters(self):
        steps = (1, 5, 7, 9)
        def walker(size, last):
            moves = [[("x", (state + step) % size) for step in steps] for state in range(size)]
            return Reader("abcd", "xy", "", moves, [last if state == size - 1 else "" for state in range(size)])
        self.assertIsNone(reader_parting(walker(64, ""), walker(61, "")))
        word, first, second = reader_parting(walker(64, "y"), walker(61, ""))
        self.same((first, second), ("x" * len(word) + "y", "x" * len(word)))
        self.same(sum(steps["abcd".index(letter)] for letter in word) % 64, 63)
        self.same(len(word), 7)

    def test_states_that_cannot_end(self):
        first = Reader("ab", "xy", "x", [[("", 1), ("y", 0)], [("x", 1), ("", 1)]], ["", None])
        second = Reader("ab", "xy", "", [[None, ("xy", 1)], [None, ("y", 1)]], ["x", ""])
        self.assertIsNone(reader_parting(first, second))
        third = Reader("ab", "xy", "", [[None, ("xy", 1)], [("", 1), ("y", 1)]], ["x", ""])
        self.same(reader_parting(first, third), ("ba", None, "xy"))

    def test_readers_that_take_nothing(self):
        nothing = [empty_reader("ab", "xy"), Reader("ab", "xy", "xyx", [[("x", 0), None]], [None])]
        for first in nothing:
            for second in nothing:
                self.assertIsNone(reader_parting(first, second))
            some = Reader("ab", "xy", "y", [[("x", 1), None], [None, None]], [None, ""])
            self.same(reader_parting(first, some), ("a", None, "yx"))
            self.same(reader_parting(some, first), ("a", "yx", None))

    def test_first_words(self):
        def only(first, final):
            return Reader("a", "xy", first, [[None]], [final])
        self.assertIsNone(reader_parting(only("xy", ""), only("", "xy")))
        self.assertIsNone(reader_parting(only("x", "y"), only("xy", "")))
        self.same(reader_parting(only("x", "x"), only("xy", "")), ("", "xx", "xy"))

    def test_mismatch(self):
        reader = empty_reader("ab", "xy")
        for read, write in (("a", "xy"), ("ab", "x"), ("xy", "ab")):
            self.fails(Mismatch, {}, reader_parting, reader, empty_reader(read, write))
            self.fails(Mismatch, {}, reader_parting, empty_reader(read, write), reader)

    def test_nothing_is_changed(self):
        source = seeded(220)
        for _ in range(20):
            first, second = random_reader(source), random_reader(source)
            before = reader_parts(first), reader_parts(second)
            paper = reader_parting(first, second)
            self.same(lists_in(paper), [])
            for reader in (first, second):
                spoil([reader.moves, reader.finals])
            self.same(reader_parting(first, second), paper)
            self.same((reader_parts(first), reader_parts(second)), before)
