"""Tests of lagbound.behind: points [4] to [7], [28] and [29]."""

from lagbound.behind import behind
from lagbound.errors import Mismatch, TooLarge
from lagbound.machines import Machine
from machine_samples import machine_for_judging, random_machine
from pair_samples import numbered, parts, told_set
from support import Case, seeded, words_up_to


def runs(machine, state, word):
    """Point [28]: the pairs (what a run writes, where it comes to), by following every row of arcs."""
    if word == "":
        return [("", state)]
    return [(arc[2] + written, last) for arc in machine.arcs if arc[:2] == (state, word[0])
            for written, last in runs(machine, arc[3], word[1:])]


def really_behind(first, second):
    """Points [28] and [29], with all pairs of states tried."""
    begins = [((p, last), w + o) for p, v in first.begins for q, w in second.begins for o, last in runs(second, q, v)]
    arcs = [((p, q), a, o, (r, last)) for p, a, v, r in first.arcs for q in range(second.size)
            for o, last in runs(second, q, v)]
    ends = [((p, q), o + e) for p, v in first.ends for q in range(second.size) for o, last in runs(second, q, v)
            for state, e in second.ends if state == last]
    return numbered(first.read, second.write, begins, arcs, ends)


def between(source, most=3):
    """A machine that reads what random machines write."""
    return random_machine(source, read="xy", write="st", most=most, words=("", "s", "t", "st", "ss"))


def speller(word, place="begins"):
    """A machine that writes the word in one entry, and nothing else."""
    begins, arcs, ends = [(0, "")], [], [(0, "")]
    if place == "begins":
        begins = [(0, word)]
    elif place == "arcs":
        arcs = [(0, "a", word, 0)]
    else:
        ends = [(0, word)]
    return Machine("a", "xz", 1, begins=begins, arcs=arcs, ends=ends)


def answering(arcs, size=1, begins=((0, ""),), ends=((0, ""),)):
    """A machine that reads x and z."""
    return Machine("xz", "st", size, begins=begins, arcs=arcs, ends=ends)


# A run over k letters x writes from 0 to k letters s.
COUNTER = answering([(0, "x", "", 0), (0, "x", "s", 0)])
# There are 2 ** k runs over k letters x, and all of them write the same.
TOGETHER = answering([(p, "x", "s", q) for p in (0, 1) for q in (0, 1)], 2, ends=[(0, ""), (1, "")])


class Behind(Case):
    """Points [28] and [29]."""

    def test_told_words(self):
        source = seeded(111)
        for _ in range(80):
            first, second = random_machine(source), between(source)
            both = behind(first, second)
            self.same((both.read, both.write), ("ab", "st"))
            for word in words_up_to("ab", 3):
                expected = {told for middle in told_set(first, word) for told in told_set(second, middle)}
                self.assertEqual(told_set(both, word), expected)

    def test_pairs_and_their_numbers(self):
        source = seeded(112)
        for _ in range(200):
            first, second = random_machine(source, most=4), between(source)
            self.same(parts(behind(first, second)), really_behind(first, second))

    def test_a_run_over_the_empty_word_stays(self):
        first = Machine("a", "xz", 1, begins=[(0, "")], arcs=[(0, "a", "", 0)], ends=[(0, "")])
        second = answering([(0, "x", "s", 1)], 2, begins=[(0, "t"), (1, "")], ends=[(0, "ss"), (1, "st")])
        self.same(parts(behind(first, second)), (
            "a", "st", 2, [(0, "t"), (1, "")], [(0, "a", "", 0), (1, "a", "", 1)], [(0, "ss"), (1, "st")]))

    def test_states_that_are_passed_through_make_no_pairs(self):
        second = answering([(0, "x", "s", 1), (1, "x", "t", 2)], 3, ends=[(2, "")])
        self.same(parts(behind(speller("xx"), second)), ("a", "st", 1, [(0, "st")], [], [(0, "")]))

    def test_not_trimmed(self):
        # The arc of the result leads nowhere, and the pair behind it is a state all the same.
        second = answering([(0, "x", "s", 1)], 2, ends=[(0, "")])
        self.same(parts(behind(speller("x", "arcs"), second)), (
            "a", "st", 2, [(0, "")], [(0, "a", "s", 1)], [(0, "")]))

    def test_entries_that_come_together(self):
        # Two arcs with unlike words become one arc, and likewise for begins and ends.
        first = Machine("a", "xz", 1, begins=[(0, "x"), (0, "z")], arcs=[(0, "a", "x", 0), (0, "a", "z", 0)],
                        ends=[(0, "x"), (0, "z")])
        second = answering([(0, "x", "s", 0), (0, "z", "s", 0)])
        self.same(parts(behind(first, second)), ("a", "st", 1, [(0, "s")], [(0, "a", "s", 0)], [(0, "s")]))

    def test_empty_machines(self):
        full, none = Machine("a", "xz", 0), answering([], 0, begins=(), ends=())
        self.same(parts(behind(full, none)), ("a", "st", 0, [], [], []))
        self.same(parts(behind(speller("x"), none)), ("a", "st", 0, [], [], []))
        self.same(parts(behind(full, COUNTER)), ("a", "st", 0, [], [], []))
        # No begins, and begins whose words cannot be read.
        self.same(behind(speller("x"), answering([], 1, begins=())).size, 0)
        self.same(behind(speller("z"), COUNTER).size, 0)

    def test_mismatch(self):
        machine = machine_for_judging()
        self.fails(Mismatch, {}, behind, machine, machine)
        self.fails(Mismatch, {}, behind, Machine("ab", "x", 1), Machine("xy", "x", 1))
        self.fails(Mismatch, {}, behind, Machine("ab", "xy", 0), Machine("x", "xy", 0))
        self.same(parts(behind(Machine("ab", "x", 0), Machine("x", "yz", 0))), ("ab", "yz", 0, [], [], []))

    def test_nothing_passed_changes(self):
        first, second = random_machine(seeded(113)), between(seeded(114))
        before = parts(first), parts(second)
        self.fresh(lambda: behind(first, second).arcs)
        self.same((parts(first), parts(second)), before)


class Limits(Case):
    """Point [7]."""

    def too_large(self, what, limit, first, second):
        self.fails(TooLarge, {"what": what, "limit": limit}, behind, first, second)

    def test_states(self):
        def ring(size):
            return answering([(state, "x", "", (state + 1) % size) for state in range(size)], size)
        self.same(behind(speller("x", "arcs"), ring(64)).size, 64)
        two = Machine("a", "xz", 2, begins=[(0, "")], arcs=[(0, "a", "x", 1), (1, "a", "x", 0)])
        self.same(behind(two, ring(64)).size, 64)
        three = Machine("a", "xz", 3, begins=[(0, "")], arcs=[(state, "a", "x", (state + 1) % 3) for state in range(3)])
        self.same(behind(three, ring(21)).size, 21)
        self.same(behind(three, ring(63)).size, 63)
        self.too_large("states", 64, three, ring(22))
        self.too_large("states", 64, three, ring(64))

    def test_states_of_begins(self):
        def fan(size):
            return answering([], size, begins=[(state, "") for state in range(size)])
        first = Machine("a", "xz", 2, begins=[(0, ""), (1, "")])
        self.same(behind(first, fan(32)).size, 64)
        self.too_large("states", 64, first, fan(33))
        self.too_large("states", 64, first, fan(64))

    def test_400_and_401_entries(self):
        for place in ("begins", "arcs", "ends"):
            both = behind(speller("x" * 399, place), COUNTER)
            expected = ["s" * size for size in range(400)]
            self.same([entry[-1 if place != "arcs" else 2] for entry in getattr(both, place)], expected)
            self.too_large(place, 400, speller("x" * 400, place), COUNTER)

    def test_entries_of_several_pairs_count_together(self):
        for place in ("begins", "arcs", "ends"):
            # Two branches, each of which gives 200 or 201 entries.
            def branches(count):
                arcs = [(state, "x", word, state) for state in (0, 1) for word in ("", "s")] + [(1, "z", "", 0)]
                first = speller("x" * (count - 1), place)
                return first, answering(arcs, 2, begins=[(0, ""), (1, "t")], ends=[(0, ""), (1, "t")])
            self.same(len(getattr(behind(*branches(200)), place)), 400)
            self.too_large(place, 400, *branches(201))

    def test_the_word_of_the_begin_counts(self):
        begins = [(0, word) for word in ("", "s" * 398)]
        # The words s ** (0 to n) and s ** (398 to 398 + n) are different ones; their lengths are the last count.
        self.too_large("written", 400, speller("x" * 100), answering(COUNTER.arcs, 1, begins=begins))
        self.too_large("begins", 400, speller("x" * 200), answering(COUNTER.arcs, 1, begins=begins))
        begins = [(0, word) for word in ("", "t")]
        self.same(len(behind(speller("x" * 199), answering(COUNTER.arcs, 1, begins=begins)).begins), 400)
        self.too_large("begins", 400, speller("x" * 200), answering(COUNTER.arcs, 1, begins=begins))

    def test_the_words_of_ends_count(self):
        ends = [(0, word) for word in ("", "t")]
        self.same(len(behind(speller("x" * 199, "ends"), answering(COUNTER.arcs, 1, ends=ends)).ends), 400)
        self.too_large("ends", 400, speller("x" * 200, "ends"), answering(COUNTER.arcs, 1, ends=ends))

    def test_runs_that_write_the_same(self):
        for place in ("begins", "arcs", "ends"):
            both = behind(speller("x" * 400, place), TOGETHER)
            words = {entry[-1 if place != "arcs" else 2] for entry in getattr(both, place)}
            self.assertEqual(words - {""}, {"s" * 400})
            self.assertLessEqual(len(getattr(both, place)), 4)

    def test_words_that_come_together_at_the_end(self):
        # Before the last letter z there are two states with the same 401 words, or with 201 words each.
        arcs = [(state, "x", word, state) for state in (0, 1) for word in ("", "s")]
        arcs += [(0, "z", "", 2), (1, "z", "", 2)]
        second = answering(arcs, 3, begins=[(0, ""), (1, "")], ends=[(2, "")])
        self.same(len(behind(speller("x" * 399 + "z"), second).begins), 400)
        mixed = answering(arcs, 3, begins=[(0, ""), (1, "s" * 201)], ends=[(2, "")])
        self.too_large("begins", 400, speller("x" * 200 + "z"), mixed)
        self.too_large("written", 400, speller("x" * 199 + "z"), answering(
            arcs, 3, begins=[(0, ""), (1, "s" * 202)], ends=[(2, "")]))

    def test_runs_that_cannot_be_completed_do_not_count(self):
        # Thousands of words are written at state 0, but z can be read at state 1 alone.
        arcs = [(0, "x", "s", 0), (0, "x", "t", 0), (0, "x", "st", 0), (1, "x", "s", 1), (1, "z", "", 1)]
        second = answering(arcs, 2, begins=[(0, ""), (1, "")], ends=[(1, "t")])
        self.same(behind(speller("x" * 300 + "z"), second).begins, [(0, "s" * 300)])
        self.same(behind(speller("x" * 300 + "z", "arcs"), second).arcs, [(1, "a", "s" * 300, 1)])
        self.same(behind(speller("x" * 300 + "z", "ends"), second).ends, [(1, "s" * 300 + "t")])

    def test_runs_that_come_to_no_end_do_not_count(self):
        arcs = [(0, "x", "s", 0), (0, "x", "t", 0), (0, "x", "st", 0), (1, "x", "s", 1)]
        second = answering(arcs, 2, begins=[(0, ""), (1, "")], ends=[(1, "t")])
        self.same(behind(speller("x" * 300, "ends"), second).ends, [(1, "s" * 300 + "t")])
        # The same runs are arcs, whether or not anything ends behind them.
        self.too_large("arcs", 400, speller("x" * 300, "arcs"), second)
        self.too_large("begins", 400, speller("x" * 300), second)

    def test_written_words(self):
        for place in ("begins", "arcs", "ends"):
            for count, size, fits in ((1, 400, True), (2, 200, True), (4, 100, True), (400, 1, True), (3, 134, False),
                                      (401 // 2, 3, False), (400, 400, False)):
                second = answering([(0, "x", "s" * size, 0)])
                if fits:
                    both = behind(speller("x" * count, place), second)
                    longest = max(len(word) for entry in both.begins + both.arcs + both.ends
                                  for word in [entry[2] if len(entry) == 4 else entry[1]])
                    self.same(longest, 400)
                else:
                    self.too_large("written", 400, speller("x" * count, place), second)

    def test_written_words_with_those_of_begins_and_ends(self):
        once = answering([(0, "x", "s" * 200, 0)], 1, begins=[(0, "t" * 200)], ends=[(0, "t" * 200)])
        self.same(behind(speller("x"), once).begins, [(0, "t" * 200 + "s" * 200)])
        self.same(behind(speller("x", "ends"), once).ends, [(0, "s" * 200 + "t" * 200)])
        more = answering([(0, "x", "s" * 201, 0)], 1, begins=[(0, "t" * 200)], ends=[(0, "t" * 200)])
        self.too_large("written", 400, speller("x"), more)
        self.too_large("written", 400, speller("x", "ends"), more)
        self.same(behind(speller("x", "arcs"), more).arcs, [(0, "a", "s" * 201, 0)])

    def test_written_words_that_no_course_uses_count(self):
        second = answering([(0, "x", "s" * 300, 0)], 1, ends=[])
        self.too_large("written", 400, speller("xx", "arcs"), second)

    def test_the_first_count_that_is_too_large(self):
        word = "x" * 400
        wide = [(state, "x", word, (state + 1) % 40) for state in range(40) for word in ("", "s")]
        for entries, what in (
            ({"begins": [(0, word)], "arcs": [(0, "a", word, 0)], "ends": [(0, word)]}, "begins"),
            ({"begins": [(0, "")], "arcs": [(0, "a", word, 0)], "ends": [(0, word)]}, "arcs"),
            ({"begins": [(0, "")], "arcs": [(0, "a", "x" * 9, 0)], "ends": [(0, word)]}, "ends"),
        ):
            first = Machine("a", "xz", 1, **entries)
            self.too_large(what, 400, first, COUNTER)
            longer = answering([(0, "x", "", 0), (0, "x", "s" * 19, 0)])
            self.too_large(what, 400, first, longer)
        # Forty states of the second, and two of the first: the states are told first.
        first = Machine("a", "xz", 2, begins=[(0, word)], arcs=[(0, "a", "x", 1), (1, "a", "xx", 0), (1, "a", "x", 0)])
        self.too_large("states", 64, first, answering(wide, 40))

    def test_many_runs_over_many_words(self):
        # Every arc of the first machine has 2 ** 400 runs, all of which write the same.
        words = ["x" * size for size in range(20, 401, 20)]
        first = Machine("a", "xz", 1, begins=[(0, "")], arcs=[(0, "a", word, 0) for word in words], ends=[(0, "")])
        self.same(len(behind(first, TOGETHER).arcs), 80)
