"""Tests of lagbound.least: points [4] to [8] and [59] to [64]."""

from lagbound.alike import reader_parting
from lagbound.errors import BadNumber, BadWord, TooLarge
from lagbound.least import (ahead_table, apart, apart_table, early, is_ahead, is_apart, is_early, is_least, least, sure,
                            useful_reader_states)
from lagbound.readers import Reader, empty_reader
from lagbound.readertext import read_reader, show_reader
from machine_samples import variants
from reader_samples import (common_by, disguised, early_by, full_reader, least_by, random_reader, reader_parts, spoilt_reader,
                            tail_by, told_by, useful_by, wheel)
from support import HUGE, NO_NUMBERS, NO_TEXTS, Case, same, seeded, words_up_to

WRITTEN = {"what": "written", "limit": 400}
EXAMPLE = ("a", "x", "", [[("", 1)], [("", 1)]], [None, "x"])


def some_readers(number, count, most=3):
    """Readers of many kinds: useless states, states without tails, early and least ones, and readers alike to these."""
    source = seeded(number)
    words = (("", "", "x", "y", "xy", "xx"), ("", "x", "xx"), ("",), ("x", "xy", "xyx", "yx"))
    for at in range(count):
        read = "a" if at % 5 == 4 else "ab"
        if at % 3 == 0:
            reader = full_reader(source, read=read, most=most, words=source.choice(words[:2] + words[3:]))
            yield disguised(source, reader, source.randint(0, 3))
        else:
            reader = random_reader(source, read=read, most=most, words=source.choice(words), full=source.choice((0.6, 0.75, 0.9)))
            yield reader if at % 3 == 1 else Reader(*early_by(reader, ahead_by(reader)))


def deep(reader):
    """A number of letters over which all tails of a small reader show all that they can."""
    return 12 if reader.read == "a" else 7


def ahead_by(reader):
    """Point [59]: the ahead word of each state, or None."""
    words = words_up_to(reader.read, deep(reader))
    return [common_by(tail_by(reader, state, word) for word in words) for state in range(len(reader.moves))]


def ending_states(reader):
    """The states with tails."""
    return [state for state, word in enumerate(ahead_by(reader)) if word is not None]


def really_ahead(reader, ends, table):
    """Point [60]; `ends` are the states with tails."""
    if type(table) is not list or len(table) != len(reader.moves):
        return False
    for state, item in enumerate(table):
        if (item is None) != (state not in ends):
            return False
        if item is None:
            continue
        if type(item) is not tuple or len(item) != 3 or not all(type(word) is str for word in item):
            return False
        if set(item[0]) - set(reader.write) or set(item[1] + item[2]) - set(reader.read):
            return False
        told = [tail_by(reader, state, word) for word in item[1:]]
        if None in told or common_by(told) != item[0]:
            return False
    for state in ends:
        behind = [move[0] + table[move[1]][0] for move in reader.moves[state] if move and move[1] in ends]
        if not all(text.startswith(table[state][0]) for text in behind + [reader.finals[state] or table[state][0]]):
            return False
        if reader.finals[state] == "" != table[state][0]:
            return False
    return True


def slow_readers(number, count):
    """Readers whose states have tails for almost the same words, which are almost the same."""
    source = seeded(number)
    for at in range(count):
        size = source.randint(2, 4)
        lasts = source.choice(([None] * (size - 1) + [""], [""] * (size - 1) + ["x"]))
        moves = [[("x" if source.random() < 0.1 else "", source.randrange(size)) for _ in "ab"] for _ in range(size)]
        yield Reader("ab", "x", "", moves, lasts)


class Useful(Case):
    """Point [59]."""

    def test_random_readers(self):
        for reader in some_readers(231, 200, most=5):
            self.same(useful_reader_states(reader), useful_by(reader))

    def test_edges(self):
        self.same(useful_reader_states(empty_reader("ab", "xy")), [])
        self.same(useful_reader_states(Reader("a", "x", "", [[None]], ["x"])), [0])
        # State 1 is not reached, state 2 cannot end, state 3 does both.
        moves = [[("", 2), ("", 3)], [("", 3), None], [("", 2), None], [None, None]]
        self.same(useful_reader_states(Reader("ab", "x", "", moves, [None, "x", None, ""])), [0, 3])
        self.same(useful_reader_states(Reader("ab", "x", "", moves, [None, "x", None, None])), [])
        self.same(useful_reader_states(wheel(64, lambda state: "", lambda state: "" if state == 63 else None)), list(range(64)))
        self.fresh(lambda: useful_reader_states(Reader(*EXAMPLE)))


class Ahead(Case):
    """Points [8], [59] and [60]."""

    def test_the_words(self):
        long = 0
        for reader in some_readers(232, 300):
            table = ahead_table(reader)
            self.same([None if item is None else item[0] for item in table], ahead_by(reader))
            self.assertTrue(really_ahead(reader, ending_states(reader), table), table)
            self.assertIs(is_ahead(reader, table), True)
            long += any(item is not None and len(item[0]) > 2 for item in table)
        self.assertGreater(long, 20)

    def test_edges(self):
        self.same(ahead_table(empty_reader("a", "x")), [None])
        self.same([item and item[0] for item in ahead_table(Reader(*EXAMPLE))], ["x", "x"])
        # State 1 is not reached, and state 2 has no tails.
        reader = Reader("ab", "xy", "y", [[("x", 0), ("y", 2)], [("xy", 0), None], [("", 2), None]], ["xx", None, None])
        self.same([item and item[0] for item in ahead_table(reader)], ["xx", "xyxx", None])
        for table in (ahead_table(reader), [("xx", "", "a"), ("xyxx", "a", "aa"), None], [("xx", "", ""), ("xyxx", "aa", "a"), None]):
            self.assertIs(is_ahead(reader, table), True)
            self.assertTrue(really_ahead(reader, [0, 1], table))

    def test_words_of_any_length(self):
        word = "xy" * 200
        reader = Reader("a", "xy", "", [[(word, state + 1)] for state in range(63)] + [[None]], [None] * 63 + [word + "x"[:0]])
        table = ahead_table(reader)
        self.same([item[0] for item in table], [word * (64 - state) for state in range(64)])
        self.assertIs(is_ahead(reader, table), True)
        table[0] = (word * 64, "a" * 63, "a" * 64)
        self.assertIs(is_ahead(reader, table), False)
        loop = Reader("a", "x", "", [[("x", 0)]], [""])
        self.same(ahead_table(loop)[0][0], "")
        for papers in ([("", "", "a" * 6000)], [("", "a" * 5000, "")]):
            self.assertIs(is_ahead(loop, papers), True)
        self.assertIs(is_ahead(loop, [("x" * 5000, "a" * 5000, "a" * 5001)]), False)

    def test_which_of_two_tails_goes_on_otherwise(self):
        # Behind the move by a the words x and y follow; the least tail is xy, in which x or y comes second.
        for first, second, word in (("x", "y", "aa"), ("y", "x", "ab")):
            moves = [[("x", 1), None], [(first, 2), (second, 2)], [None, None]]
            reader = Reader("ab", "xy", "", moves, ["xy", None, ""])
            table = ahead_table(reader)
            self.same(table, [("x", "", word), ("", "a", "b"), ("", "", "")])
            self.assertIs(is_ahead(reader, table), True)
            # The first tail ends where the other one goes on.
            moves = [[("x", 1), None], [None, (second, 2)], [None, None]]
            reader = Reader("ab", "xy", "", moves, ["xy", "", ""])
            self.same(ahead_table(reader)[0], ("x", "", "a"))
            self.assertIs(is_ahead(reader, ahead_table(reader)), True)

    def test_late_differences(self):
        # All tails share 99 letters; which letter comes next is decided by the moves that come last.
        reader = wheel(50, lambda state: "x", lambda state: "x" * 50 + "y" if state == 49 else None)
        table = ahead_table(reader)
        self.same([item[0] for item in table], ["x" * (99 - state) for state in range(50)])
        self.assertIs(is_ahead(reader, table), True)
        reader = wheel(64, lambda state: "x" * 400, lambda state: "x" * 400 if state == 63 else None)
        table = ahead_table(reader)
        self.same([len(item[0]) for item in table], [400 * (64 - state) for state in range(64)])
        self.assertIs(is_ahead(reader, table), True)

    def test_wrong_at_a_single_place(self):
        right = wrong = 0
        fillers = (True, False, None, 0, 1, HUGE, "", "a", "b", "ab", "x", "y", "xy", "c", [], (), ("", "", ""), ["x"])
        for reader in some_readers(233, 60):
            ends = ending_states(reader)
            for paper in variants(ahead_table(reader), fillers):
                expected = really_ahead(reader, ends, paper)
                self.assertIs(is_ahead(reader, paper), expected, paper)
                right += expected
                wrong += not expected
        self.assertGreater(right, 50)
        self.assertGreater(wrong, 3000)

    def test_wrong_kinds(self):
        reader = Reader("a", "x", "", [[None]], ["x"])
        self.assertIs(is_ahead(reader, [("x", "", "")]), True)
        for paper in NO_TEXTS + ("", [None], [], [("x", "", ""), None], (("x", "", ""),), [["x", "", ""]], [("x", "")],
                                 [("x", "", "", "")], [("", "", "")], [("x", "", "a")], [("xx", "", "")], [("x", None, "")],
                                 [(None, "", "")], [("x", ("",), "")], [("z", "", "")], [("x", "b", "")], [("X", "", "")]):
            self.assertIs(is_ahead(reader, paper), False, paper)
        self.assertIs(is_ahead(empty_reader("a", "x"), [None]), True)
        for paper in ([("", "", "")], [], [False], [0], [""], (None,), [None, None]):
            self.assertIs(is_ahead(empty_reader("a", "x"), paper), False)

    def test_shorter_words_are_not_enough(self):
        reader = Reader("ab", "xy", "", [[("xx", 1), ("xy", 1)], [None, None]], [None, ""])
        self.same(ahead_table(reader), [("x", "a", "b"), ("", "", "")])
        for item in (("", "a", "b"), ("xx", "a", "a"), ("xy", "b", "b"), ("x", "a", "a"), ("xx", "a", "b")):
            self.assertIs(is_ahead(reader, [item, ("", "", "")]), False)
        self.assertIs(is_ahead(reader, [("x", "b", "a"), ("", "", "")]), True)

    def test_fresh(self):
        self.fresh(lambda: ahead_table(Reader(*EXAMPLE)))


class Early(Case):
    """Point [61]."""

    def test_the_form(self):
        found = {True: 0, False: 0}
        for reader in some_readers(234, 300):
            expected = early_by(reader, ahead_by(reader))
            form = early(reader)
            self.same(reader_parts(form), expected)
            self.assertIs(is_early(form), True)
            self.assertIs(is_early(reader), same(reader_parts(reader), expected))
            self.same(reader_parts(early(form)), expected)
            found[is_early(reader)] += 1
        self.assertGreater(min(found.values()), 60)

    def test_the_same_words_as_early_as_possible(self):
        for reader in some_readers(235, 100):
            form = early(reader)
            for word in words_up_to(reader.read, 4):
                self.same(form.tell(word), told_by(reader, word))
                if sure(reader, word) is not None:
                    self.same(form.written_after(word), sure(reader, word))

    def test_readers_that_take_nothing(self):
        for first in ("", "x"):
            for reader in (Reader("ab", "xy", first, [[None, None]], [None]), Reader("ab", "xy", first, [[("x", 0), None]], [None]),
                           Reader("ab", "xy", first, [[("x", 0), None], [None, None]], [None, "x"])):
                self.same(reader_parts(early(reader)), reader_parts(empty_reader("ab", "xy")))
                self.same(reader_parts(least(reader)), reader_parts(empty_reader("ab", "xy")))
                empty = first == "" and reader.moves == [[None, None]]
                self.assertIs(is_early(reader), empty)
                self.assertIs(is_least(reader), empty)

    def test_states_that_are_not_useful(self):
        moves = [[("x", 3), ("y", 1)], [("x", 1), None], [("x", 3), None], [("y", 0), ("x", 1)]]
        reader = Reader("ab", "xy", "y", moves, [None, None, "x", "yx"])
        self.same(reader_parts(early(reader)), ("ab", "xy", "yxyx", [[("", 1), None], [("yx", 0), None]], [None, ""]))
        self.assertIs(is_early(reader), False)
        # Without an ahead word, but with a state that is not reached, or cannot end.
        self.assertIs(is_early(Reader("a", "x", "", [[None], [None]], ["", ""])), False)
        self.assertIs(is_early(Reader("a", "x", "", [[("", 1)], [None]], ["", None])), False)
        self.assertIs(is_early(Reader("a", "x", "x", [[None]], [""])), True)
        self.assertIs(is_early(Reader("a", "x", "x", [[None]], ["x"])), False)

    def test_400_and_401_letters(self):
        def words(first, move, final):
            return Reader("ab", "xy", "x" * first, [[("y" * move, 1), ("x", 1)], [None, None]], [None, "x" * final])
        self.same(early(words(1, 300, 100)).moves[0][0], ("y" * 300 + "x" * 100, 1))
        self.same(len(early(Reader("a", "x", "x" * 200, [[None]], ["x" * 200])).first), 400)
        for reader in (words(1, 300, 101), Reader("a", "x", "x" * 200, [[None]], ["x" * 201]), words(1, 400, 400),
                       Reader("a", "x", "", [[("x" * 400, 1)], [None]], [None, "x"])):
            for function in (early, least):
                self.fails(TooLarge, WRITTEN, function, reader)
            self.assertIs(is_early(reader), False)
            self.assertIs(is_least(reader), False)
        # What no told word uses does not count.
        loose = Reader("ab", "xy", "", [[("x" * 400, 1), None], [("x" * 400, 1), None]], ["", None])
        self.same(reader_parts(early(loose)), ("ab", "xy", "", [[None, None]], [""]))
        # A final word of 401 letters cannot arise, since an early final word is a part of the old one.
        self.same(early(Reader("a", "x", "", [[("", 0)]], ["x" * 400])).finals, [""])

    def test_nothing_is_changed(self):
        reader = Reader(*EXAMPLE)
        for function in (early, least, is_early, is_least, ahead_table, useful_reader_states):
            function(reader)
            self.same(reader_parts(reader), EXAMPLE)
        self.fresh(lambda: early(reader).moves)
        self.fresh(lambda: least(reader).moves)


class Least(Case):
    """Point [62]."""

    def test_the_example(self):
        self.same(show_reader(least(Reader(*EXAMPLE))), "reader a x 2 x\nmove 0 a - 1\nmove 1 a - 1\nfinal 1 -")

    def test_the_form(self):
        found = {True: 0, False: 0}
        for reader in some_readers(236, 250):
            form = least(reader)
            self.same(reader_parts(form), least_by(reader, 5 if reader.read == "ab" else 8))
            self.assertIs(is_least(form), True)
            self.assertIs(is_early(form), True)
            self.assertIs(is_least(reader), same(reader_parts(form), reader_parts(reader)))
            self.same(show_reader(least(form)), show_reader(form))
            self.assertLessEqual(len(form), len(reader))
            self.assertIsNone(reader_parting(form, reader))
            found[is_least(reader)] += 1
        self.assertGreater(min(found.values()), 40)

    def test_alike_readers_have_one_form(self):
        source = seeded(237)
        unlike = 0
        for _ in range(150):
            reader = full_reader(source)
            other = disguised(source, reader)
            self.same(show_reader(least(other)), show_reader(least(reader)))
            other = spoilt_reader(source, other)
            self.assertEqual(show_reader(least(other)) == show_reader(least(reader)), reader_parting(reader, other) is None)
            unlike += reader_parting(reader, other) is not None
        self.assertGreater(unlike, 40)

    def test_the_numbering_counts(self):
        right = read_reader("reader ab xy 3 -\nmove 0 a - 1\nmove 0 b - 2\nmove 1 a x 0\nfinal 1 -\nfinal 2 y\nmove 2 b x 1")
        self.assertIs(is_least(right), True)
        form = least(right)
        self.same(show_reader(form), show_reader(right))
        order = [0, 2, 1]
        moves = [None] * 3
        for state, row in enumerate(form.moves):
            moves[order[state]] = [move and (move[0], order[move[1]]) for move in row]
        turned = Reader("ab", "xy", form.first, moves, [form.finals[state] for state in order])
        self.assertIs(is_early(turned), True)
        self.assertIs(is_least(turned), False)
        self.same(show_reader(least(turned)), show_reader(form))

    def test_64_states(self):
        reader = wheel(64, lambda state: "", lambda state: "x" if state == 0 else "")
        self.same(show_reader(least(reader)), show_reader(reader))
        self.same(len(least(wheel(64, lambda state: "x", lambda state: "yy"))), 1)
        self.same(len(least(wheel(64, lambda state: "x", lambda state: "y" if state % 2 else ""))), 2)
        self.same(len(least(wheel(63, lambda state: "x", lambda state: "y" if state % 2 else ""))), 63)

    def test_the_empty_reader(self):
        self.assertIs(is_least(empty_reader("abcd", "x")), True)
        self.same(show_reader(least(empty_reader("abcd", "x"))), "reader abcd x 1 -")
        self.assertIs(is_least(Reader("a", "x", "", [[None]], [""])), True)


class Apart(Case):
    """Points [8] and [63]."""

    def test_the_least_words(self):
        found = {}
        for reader in list(some_readers(238, 100)) + list(slow_readers(242, 100)):
            size = len(reader)
            words = words_up_to(reader.read, 2 * size)
            tables = []
            for i in range(size):
                for j in range(size):
                    expected = next((word for word in words if tail_by(reader, i, word) != tail_by(reader, j, word)), None)
                    self.same(apart(reader, i, j), expected)
                    if expected is not None:
                        self.assertLess(len(expected), 2 * size)
                        found[len(expected)] = found.get(len(expected), 0) + 1
                    if i < j:
                        tables.append((i, j, expected))
            if any(word is None for _, _, word in tables):
                self.assertIsNone(apart_table(reader))
            else:
                self.same(apart_table(reader), tables)
                self.assertIs(is_apart(reader, tables), True)
        self.assertGreater(sum(count for length, count in found.items() if length > 1), 30)

    def test_64_states(self):
        reader = wheel(64, lambda state: "", lambda state: "x" if state == 0 else "")
        table = apart_table(reader)
        self.same(table, [(i, j, "a" * min(64 - j, (64 - i) % 64)) for i in range(64) for j in range(i + 1, 64)])
        self.assertIs(is_apart(reader, table), True)
        line = Reader("a", "x", "", [[("x" * 400, state + 1)] for state in range(63)] + [[None]], [None] * 63 + [""])
        table = apart_table(line)
        self.same([row[2] for row in table], ["a" * (63 - j) for i in range(64) for j in range(i + 1, 64)])
        self.assertIs(is_apart(line, table), True)

    def test_edges(self):
        one = Reader("a", "xy", "", [[("x", 0)]], ["y"])
        self.same(apart_table(one), [])
        self.assertIs(is_apart(one, []), True)
        self.assertIsNone(apart(one, 0, 0))
        # No tails at all are equal tails; unreached states count.
        none = Reader("a", "x", "", [[("", 1)], [("x", 0)]], [None, None])
        self.assertIsNone(apart(none, 0, 1))
        self.assertIsNone(apart_table(none))
        unreached = Reader("a", "x", "", [[None], [("x", 1)]], ["", None])
        self.same(apart(unreached, 0, 1), "")
        self.same(apart_table(unreached), [(0, 1, "")])
        self.same(apart(unreached, 1, 1), None)

    def test_wrong_states(self):
        reader = Reader(*EXAMPLE)
        for value in NO_NUMBERS + (2, -1, 64):
            self.fails_with(BadNumber, value, apart, reader, value, 0)
            self.fails_with(BadNumber, value, apart, reader, 1, value)
            self.fails_with(BadNumber, value, apart, reader, value, "later")
        self.same(apart(reader, 1, 0), "")

    def test_wrong_at_a_single_place(self):
        count = 0
        for reader in [Reader(*EXAMPLE)] + [told for told in some_readers(239, 80) if apart_table(told)][:20]:
            table = apart_table(reader)
            for paper in variants(table, (True, False, None, 0, 1, 2, -1, HUGE, "", "a", "b", "aa", "c", [], (), (0, 1, ""))):
                expected = type(paper) is list and len(paper) == len(table) and all(
                    type(row) is tuple and len(row) == 3 and same(row[:2], kept[:2]) and type(row[2]) is str
                    and not set(row[2]) - set(reader.read)
                    and tail_by(reader, row[0], row[2]) != tail_by(reader, row[1], row[2]) for row, kept in zip(paper, table))
                self.assertIs(is_apart(reader, paper), expected, paper)
                count += not expected
        self.assertGreater(count, 1000)

    def test_words_need_not_be_the_least(self):
        loop = Reader("ab", "xy", "", [[("x", 0), None], [("y", 1), None]], ["", ""])
        self.same(apart_table(loop), [(0, 1, "a")])
        for word, right in (("a", True), ("aaa", True), ("a" * 5000, True), ("", False), ("b", False), ("ab", False), ("c", False)):
            self.assertIs(is_apart(loop, [(0, 1, word)]), right)
        for paper in NO_TEXTS + ((), [], ((0, 1, "a"),), [[0, 1, "a"]], [(False, True, "a")], [(1, 0, "a")], [(0, 1, "a"), (0, 1, "a")]):
            self.assertIs(is_apart(loop, paper), False)
        self.assertIs(is_apart(empty_reader("a", "x"), ()), False)
        self.assertIs(is_apart(Reader("a", "x", "", [[None], [None]], ["", ""]), []), False)
        self.assertIs(is_apart(Reader("a", "x", "", [[None], [None]], ["", ""]), [(0, 1, "")]), False)

    def test_fresh(self):
        self.fresh(lambda: apart_table(Reader(*EXAMPLE)))


class Sure(Case):
    """Point [64]."""

    def test_the_words(self):
        found = {True: 0, False: 0}
        for reader in some_readers(240, 150):
            endings = words_up_to(reader.read, deep(reader) - 1)
            for word in words_up_to(reader.read, 3):
                expected = common_by(told_by(reader, word + ending) for ending in endings)
                self.same(sure(reader, word), expected)
                found[expected is None] += 1
        self.assertGreater(min(found.values()), 200)

    def test_what_is_written_is_a_part_of_it(self):
        for reader in some_readers(241, 80):
            for word in words_up_to(reader.read, 3):
                if sure(reader, word) is not None:
                    self.assertTrue(sure(reader, word).startswith(reader.written_after(word)))

    def test_edges(self):
        reader = Reader("ab", "xy", "y", [[("x", 0), ("x", 1)], [None, None]], ["xx", None])
        self.same([sure(reader, word) for word in ("", "a", "b", "ab", "bb")], ["yxx", "yxxx", None, None, None])
        self.same(sure(reader, "a" * 4000), "y" + "x" * 4002)
        self.assertIsNone(sure(empty_reader("a", "x"), ""))

    def test_wrong_words(self):
        for reader in (Reader(*EXAMPLE), empty_reader("a", "x")):
            for value in NO_TEXTS + ("b", "x", "a b", "A", "a" * 4001, "-", "a\n"):
                self.fails_with(BadWord, value, sure, reader, value)
