"""Tests of lagbound.machines: points [3] to [7] and [17] to [19]."""

from lagbound.errors import BadEntry, BadLetters, BadNumber, TooLarge
from lagbound.machines import Machine
from support import HUGE, NO_ALPHABETS, NO_INTEGERS, NO_NUMBERS, NO_TEXTS, Case, seeded

BEGINS = [(0, ""), (0, "x"), (0, "y"), (0, "xx"), (1, ""), (1, "yy")]
ARCS = [
    (0, "a", "", 0), (0, "a", "", 1), (0, "a", "x", 0), (0, "a", "y", 1), (0, "a", "xx", 0), (0, "b", "", 0),
    (1, "a", "yx", 0), (1, "a", "yy", 1), (1, "b", "x", 0),
]
WRONG_WORDS = NO_TEXTS + ("z", "a", "-", "X", "x y", "x\n", "x" * 401)
WRONG_STATES = NO_INTEGERS + (-1, 2, HUGE, -HUGE)


def mixed(rows, source):
    twice = rows * 2
    source.shuffle(twice)
    return twice


class Entries(Case):
    """Points [4], [17] and [18]."""

    def test_order_and_each_once(self):
        source = seeded(31)
        for _ in range(30):
            begins, arcs, ends = mixed(BEGINS, source), mixed(ARCS, source), mixed(BEGINS, source)
            kept = (list(begins), list(arcs), list(ends))
            for kind in (list, tuple):
                machine = Machine("ab", "xy", 2, begins=kind(begins), arcs=kind(arcs), ends=kind(ends))
                self.same((machine.begins, machine.arcs, machine.ends), (BEGINS, ARCS, BEGINS))
            self.same((begins, arcs, ends), kept)

    def test_alphabets_and_size(self):
        machine = Machine("ab", "wxyz", 64)
        self.same((machine.read, machine.write, machine.size, len(machine)), ("ab", "wxyz", 64, 64))

    def test_without_entries(self):
        for size in (0, 1, 64):
            machine = Machine("a", "x", size)
            self.same((machine.size, len(machine)), (size, size))
            self.same((machine.begins, machine.arcs, machine.ends, list(machine)), ([], [], [], []))
        machine = Machine("a", "x", 0, begins=[], arcs=(), ends=[])
        self.same((machine.begins, machine.arcs, machine.ends), ([], [], []))

    def test_iterating_gives_the_arcs(self):
        machine = Machine("ab", "xy", 2, arcs=ARCS[::-1])
        self.same(list(machine), ARCS)
        self.same(list(machine), ARCS)

    def test_copies(self):
        begins, arcs, ends = list(BEGINS), list(ARCS), list(BEGINS)
        machine = Machine("ab", "xy", 2, begins=begins, arcs=arcs, ends=ends)
        for rows in (begins, arcs, ends):
            rows.clear()
        self.same((machine.begins, machine.arcs, machine.ends), (BEGINS, ARCS, BEGINS))
        for ask in (lambda: machine.begins, lambda: machine.arcs, lambda: machine.ends):
            self.fresh(ask)

    def test_properties_are_not_assigned(self):
        machine = Machine("a", "x", 1)
        for name in ("read", "write", "size", "begins", "arcs", "ends"):
            with self.assertRaises(Exception):
                setattr(machine, name, None)

    def test_entries_are_passed_by_name(self):
        with self.assertRaises(TypeError):
            Machine("a", "x", 1, [])

    def test_words_of_400_letters(self):
        word = "x" * 400
        machine = Machine("a", "x", 1, begins=[(0, word)], arcs=[(0, "a", word, 0)], ends=[(0, word)])
        self.same((machine.begins, machine.arcs, machine.ends), ([(0, word)], [(0, "a", word, 0)], [(0, word)]))

    def test_400_entries(self):
        pairs = [(state, "x" * size) for state in range(8) for size in range(50)]
        arcs = [(state, "a", "x" * size, 7) for state in range(8) for size in range(50)]
        machine = Machine("a", "x", 8, begins=pairs, arcs=arcs, ends=pairs)
        self.same((machine.begins, machine.arcs, machine.ends), (pairs, arcs, pairs))
        self.same(Machine("a", "x", 1, begins=[(0, "")] * 400).begins, [(0, "")])


class WrongParameters(Case):
    """Points [5] to [7] and [19]; what stands behind the wrong parameter is wrong, too."""

    def test_alphabets(self):
        for value in NO_ALPHABETS:
            self.fails_with(BadLetters, value, Machine, value, "ba", None, begins=None)
            self.fails_with(BadLetters, value, Machine, "ab", value, None, begins=None, arcs=None)

    def test_size(self):
        for value in NO_NUMBERS + (65,):
            self.fails_with(BadNumber, value, Machine, "ab", "xy", value, begins=None, arcs=None, ends=None)

    def test_no_lists(self):
        for value in (None, True, 0, HUGE, "", "ab"):
            for place, named in (
                ("begins", {"begins": value, "arcs": None, "ends": None}),
                ("arcs", {"arcs": value, "ends": None}),
                ("ends", {"ends": value}),
            ):
                self.fails(BadEntry, {"place": place, "index": None}, Machine, "ab", "xy", 2, **named)

    def test_401_entries(self):
        for rows in ([(0, "")] * 401, [None] * 401, (HUGE,) * 500):
            for place, named in (
                ("begins", {"begins": rows, "arcs": None}),
                ("arcs", {"arcs": rows, "ends": None}),
                ("ends", {"ends": rows}),
            ):
                self.fails(TooLarge, {"what": place, "limit": 400}, Machine, "a", "x", 1, **named)

    def pairs_fail(self, entry):
        for place, right in (("begins", (1, "x")), ("ends", (0, "yx"))):
            for index, rows in ((0, [entry]), (1, (right, entry, None)), (399, [right] * 399 + [entry])):
                named = {place: rows}
                if place == "begins":
                    named["arcs"] = None
                self.fails(BadEntry, {"place": place, "index": index}, Machine, "ab", "xy", 2, **named)

    def arcs_fail(self, entry):
        right = (1, "b", "xy", 0)
        for index, rows in ((0, [entry]), (1, (right, entry, None)), (399, [right] * 399 + [entry])):
            self.fails(BadEntry, {"place": "arcs", "index": index}, Machine, "ab", "xy", 2, arcs=rows, ends=None)

    def test_wrong_begins_and_ends(self):
        for entry in (None, True, 0, HUGE, "", "0x", [], [0, ""], (), (0,), ("",), (0, "", 0), ((0, ""),), ("", 0)):
            self.pairs_fail(entry)

    def test_wrong_states(self):
        for state in WRONG_STATES:
            self.pairs_fail((state, "x"))
            self.arcs_fail((state, "a", "x", 0))
            self.arcs_fail((0, "a", "x", state))

    def test_wrong_words(self):
        for word in WRONG_WORDS:
            self.pairs_fail((0, word))
            self.arcs_fail((0, "a", word, 0))

    def test_wrong_arcs(self):
        for entry in (None, True, 7, "", [], [0, "a", "x", 0], (), (0, "a", "x"), (0, "a", "x", 0, 0), ((0, "a", "x", 0),)):
            self.arcs_fail(entry)
        for letter in NO_TEXTS + ("", "c", "x", "ab", "aa", "A", "-"):
            self.arcs_fail((0, letter, "x", 0))

    def test_no_state_in_an_empty_machine(self):
        self.fails(BadEntry, {"place": "begins", "index": 0}, Machine, "a", "x", 0, begins=[(0, "")])
        self.fails(BadEntry, {"place": "arcs", "index": 0}, Machine, "a", "x", 0, arcs=[(0, "a", "", 0)])
        self.fails(BadEntry, {"place": "ends", "index": 0}, Machine, "a", "x", 0, ends=[(0, "")])

    def test_begins_before_arcs_before_ends(self):
        wrong = [None]
        self.fails(BadEntry, {"place": "begins", "index": 0}, Machine, "a", "x", 1, begins=wrong, arcs=wrong * 401, ends=5)
        self.fails(TooLarge, {"what": "arcs"}, Machine, "a", "x", 1, begins=[(0, "")], arcs=wrong * 401, ends=5)
        self.fails(BadEntry, {"place": "ends", "index": None}, Machine, "a", "x", 1, begins=[], arcs=[], ends=5)
