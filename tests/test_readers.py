"""Tests of lagbound.readers: points [3] to [7] and [45] to [49]."""

import copy

from lagbound.errors import BadEntry, BadLetters, BadNumber, BadWord, Mismatch, TooLarge
from lagbound.readers import Reader, empty_reader, reader_machine
from pair_samples import parts, told_set
from reader_samples import random_reader, reader_parts, really_chained, told_by, walk
from support import HUGE, NO_ALPHABETS, NO_INTEGERS, NO_TEXTS, Case, seeded, words_up_to

MOVES = [[("x", 1), None], [("", 0), ("yy", 1)]]
FINALS = [None, "xy"]
WRONG_WORDS = NO_TEXTS + ("z", "a", "-", "X", "x y", "x\n", "x" * 401)
WRONG_READ = NO_TEXTS + ("c", "x", "abc", "-", "a b", "a" * 4001)


def small():
    return Reader("ab", "xy", "y", MOVES, FINALS)


def ring(size, letter="a", word="x", read="a", write="x"):
    """A reader that counts the letters up to `size` and tells a word behind each number of them."""
    row = [("", 0) for _ in read]
    moves = [list(row) for _ in range(size)]
    for state in range(size):
        moves[state][read.index(letter)] = (word, (state + 1) % size)
    return Reader(read, write, "", moves, [""] * size)


class Constructor(Case):
    """Points [3] to [7], [45] and [47]."""

    def test_properties(self):
        for kind in (list, tuple):
            reader = Reader("ab", "xy", "y", kind(kind(row) for row in MOVES), kind(FINALS))
            self.same(reader_parts(reader), ("ab", "xy", "y", MOVES, FINALS))
            self.same(len(reader), 2)

    def test_copies(self):
        moves, finals = copy.deepcopy(MOVES), list(FINALS)
        reader = Reader("ab", "xy", "y", moves, finals)
        moves[0][0] = None
        moves.append([None, None])
        finals.clear()
        self.same(reader_parts(reader), ("ab", "xy", "y", MOVES, FINALS))
        self.fresh(lambda: reader.moves)
        self.fresh(lambda: reader.finals)
        self.same(reader.tell("a"), "yxxy")

    def test_properties_are_not_assigned(self):
        reader = small()
        for name in ("read", "write", "first", "moves", "finals"):
            with self.assertRaises(Exception):
                setattr(reader, name, None)

    def test_alphabets(self):
        for value in NO_ALPHABETS:
            self.fails_with(BadLetters, value, Reader, value, "yx", None, None, None)
            self.fails_with(BadLetters, value, Reader, "ab", value, None, None, None)

    def test_first_words(self):
        for value in WRONG_WORDS:
            self.fails_with(BadWord, value, Reader, "ab", "xy", value, None, None)
        self.same(Reader("ab", "xy", "x" * 400, MOVES, FINALS).first, "x" * 400)

    def test_no_rows(self):
        for value in (None, True, 0, 2, HUGE, "", "ab", [], ()):
            self.fails(BadEntry, {"place": "moves", "index": None}, Reader, "ab", "xy", "", value, None)

    def test_64_and_65_rows(self):
        self.same(len(Reader("a", "x", "", [[("x", 63)]] * 64, [""] * 64)), 64)
        for rows in ([[None]] * 65, [None] * 65, (HUGE,) * 100):
            self.fails(TooLarge, {"what": "states", "limit": 64}, Reader, "a", "x", "", rows, None)
        self.fails(BadEntry, {"place": "moves", "index": 0}, Reader, "a", "x", "", [None] * 64, None)

    def row_fails(self, row):
        right = [None, ("x", 0)]
        for index, rows in ((0, [row, right]), (1, ((None, None), row)), (1, [right, row, None])):
            self.fails(BadEntry, {"place": "moves", "index": index}, Reader, "ab", "xy", "", rows, None)

    def test_wrong_rows(self):
        for row in (None, True, 0, "", "ab", [], (), [None], (None,), [None] * 3, [("x", 0)], [("x", 0)] * 3):
            self.row_fails(row)

    def test_wrong_moves(self):
        for move in (True, False, 0, 1, "", "x", [], ["x", 0], (), ("x",), (0,), ("x", 0, 0), (0, "x"), (("x", 0),), HUGE):
            self.row_fails([move, None])
            self.row_fails((("x", 0), move))
        for word in WRONG_WORDS:
            self.row_fails([(word, 0), None])
        for state in NO_INTEGERS + (-1, 3, HUGE, -HUGE):
            self.row_fails([None, ("x", state)])
        self.fails(BadEntry, {"place": "moves", "index": 0}, Reader, "a", "x", "", [[("x", 1)]], None)

    def test_words_of_400_letters(self):
        word = "xy" * 200
        reader = Reader("a", "xy", word, [[(word, 0)]], [word])
        self.same(reader_parts(reader), ("a", "xy", word, [[(word, 0)]], [word]))
        self.fails(BadEntry, {"place": "moves", "index": 0}, Reader, "a", "xy", word, [[(word + "x", 0)]], None)

    def test_wrong_finals(self):
        for value in (None, True, 0, 2, HUGE, "", "xy", [], (), ["x"], ("x",), ["", "", ""], [0] * 3, [None]):
            self.fails(BadEntry, {"place": "finals", "index": None}, Reader, "ab", "xy", "", MOVES, value)
        for value in tuple(word for word in WRONG_WORDS if word is not None):
            self.fails(BadEntry, {"place": "finals", "index": 0}, Reader, "ab", "xy", "", MOVES, [value, 7])
            self.fails(BadEntry, {"place": "finals", "index": 1}, Reader, "ab", "xy", "", MOVES, (None, value))


class Walking(Case):
    """Points [45] and [46]."""

    def test_walks(self):
        source = seeded(161)
        stops = 0
        for _ in range(100):
            reader = random_reader(source)
            for word in words_up_to("ab", 4):
                run = walk(reader, word)
                self.same(reader.state_after(word), run and run[1])
                self.same(reader.written_after(word), run and reader.first + run[0])
                self.same(reader.tell(word), told_by(reader, word))
                stops += run is None
                for state in range(len(reader)):
                    run = walk(reader, word, state)
                    final = run and reader.finals[run[1]]
                    self.same(reader.tail(state, word), None if run is None or final is None else run[0] + final)
        self.assertGreater(stops, 500)

    def test_small(self):
        reader = small()
        self.same([reader.tell(word) for word in ("", "a", "ab", "aa", "aab", "aba", "abb")],
                  [None, "yxxy", "yxyyxy", None, None, None, "yxyyyyxy"])
        self.same([reader.state_after(word) for word in ("", "a", "b", "aba")], [0, 1, None, 0])
        self.same([reader.written_after(word) for word in ("", "a", "b", "aba")], ["y", "yx", None, "yxyy"])
        self.same([reader.tail(1, word) for word in ("", "b", "a", "aa", "ab")], ["xy", "yyxy", None, "xxy", None])

    def test_the_empty_word(self):
        reader = Reader("a", "xy", "x", [[None]], ["yy"])
        self.same((reader.tell(""), reader.written_after(""), reader.state_after(""), reader.tail(0, "")), ("xyy", "x", 0, "yy"))
        self.same((reader.tell("a"), reader.written_after("a"), reader.state_after("a"), reader.tail(0, "a")), (None,) * 4)

    def test_words_of_4000_letters(self):
        reader = ring(7, word="xy", read="ab", write="xy")
        self.same(reader.state_after("a" * 4000), 4000 % 7)
        self.same(reader.tell("a" * 4000), "xy" * 4000)
        self.same(reader.written_after("a" * 4000), "xy" * 4000)
        self.same(reader.tail(3, "a" * 4000), "xy" * 4000)
        self.same(Reader("a", "x", "", [[("x" * 400, 0)]], ["x"]).tell("a" * 4000), "x" * 1600001)

    def test_wrong_words(self):
        reader = small()
        for value in WRONG_READ:
            for function in (reader.state_after, reader.written_after, reader.tell):
                self.fails_with(BadWord, value, function, value)
            self.fails_with(BadWord, value, reader.tail, 1, value)

    def test_wrong_states(self):
        reader = small()
        for value in NO_INTEGERS + (-1, 2, HUGE, -HUGE):
            self.fails_with(BadNumber, value, reader.tail, value, "a")
            self.fails_with(BadNumber, value, reader.tail, value, None)


class Machines(Case):
    """Points [46] and [48]."""

    def test_the_empty_reader(self):
        for read, write in (("a", "x"), ("abcd", "z")):
            self.same(reader_parts(empty_reader(read, write)), (read, write, "", [[None] * len(read)], [None]))
        self.assertIsNone(empty_reader("a", "x").tell(""))
        for value in NO_ALPHABETS:
            self.fails_with(BadLetters, value, empty_reader, value, "ba")
            self.fails_with(BadLetters, value, empty_reader, "ab", value)

    def test_the_same_words(self):
        source = seeded(162)
        for _ in range(80):
            reader = random_reader(source)
            machine = reader_machine(reader)
            for word in words_up_to("ab", 4):
                told = told_by(reader, word)
                self.assertEqual(told_set(machine, word), set() if told is None else {told})

    def test_entries(self):
        self.same(parts(reader_machine(small())), (
            "ab", "xy", 2, [(0, "y")], [(0, "a", "x", 1), (1, "a", "", 0), (1, "b", "yy", 1)], [(1, "xy")]))
        self.same(parts(reader_machine(empty_reader("a", "x"))), ("a", "x", 1, [(0, "")], [], []))
        full = Reader("abcd", "x", "", [[("x", 63)] * 4] * 64, [""] * 64)
        machine = reader_machine(full)
        self.same((machine.size, len(machine.arcs), len(machine.ends)), (64, 256, 64))


class Chained(Case):
    """Points [6], [7] and [49]."""

    def too_large(self, what, limit, first, second):
        self.fails(TooLarge, {"what": what, "limit": limit}, lambda: first >> second)

    def some(self, number, count):
        source = seeded(number)
        for _ in range(count):
            yield random_reader(source, full=0.9), random_reader(source, read="xy", write="st", words=("", "s", "t", "st"), full=0.85)

    def test_one_after_the_other(self):
        told = 0
        for first, second in self.some(163, 150):
            both = first >> second
            self.same((both.read, both.write), ("ab", "st"))
            for word in words_up_to("ab", 4):
                middle = told_by(first, word)
                expected = None if middle is None else told_by(second, middle)
                self.same(both.tell(word), expected)
                told += expected is not None
        self.assertGreater(told, 500)

    def test_pairs_and_their_numbers(self):
        empty = 0
        for first, second in self.some(164, 200):
            both = first >> second
            if walk(second, first.first) is None:
                empty += 1
                self.same(reader_parts(both), ("ab", "st", "", [[None, None]], [None]))
            else:
                self.same(reader_parts(both), really_chained(first, second))
        self.assertGreater(empty, 5)

    def test_first_words(self):
        first = Reader("a", "xy", "xy", [[("x", 0)]], ["y"])
        second = Reader("xy", "st", "tt", [[("s", 1), None], [("", 0), ("t", 1)]], ["s", "tt"])
        self.same(reader_parts(first >> second), ("a", "st", "ttst", [[("", 1)], [("s", 0)]], ["ttt", None]))

    def test_the_empty_word_can_always_be_read(self):
        first = Reader("a", "x", "", [[("", 0)]], [""])
        second = Reader("x", "s", "ss", [[None]], ["s"])
        self.same(reader_parts(first >> second), ("a", "s", "ss", [[("", 0)]], ["s"]))

    def test_a_first_word_that_cannot_be_read(self):
        # Nothing is counted then, however many states and letters there are.
        word = "x" * 400
        first = Reader("a", "x", "x", [[(word, (state + 1) % 64)] for state in range(64)], [word] * 64)
        second = Reader("x", "s", "s" * 400, [[None]], ["s"])
        self.same(reader_parts(first >> second), ("a", "s", "", [[None]], [None]))

    def test_mismatch(self):
        for write, read in (("x", "xy"), ("xy", "x"), ("xy", "yz"), ("ab", "xy")):
            first, second = empty_reader("ab", write), empty_reader(read, "ab")
            self.fails(Mismatch, {}, lambda: first >> second)
        self.fails(Mismatch, {}, lambda: ring(64) >> ring(63, read="ab"))
        # A first word that cannot be read makes no difference.
        self.fails(Mismatch, {}, lambda: Reader("a", "x", "x", [[None]], [None]) >> empty_reader("y", "s"))

    def test_64_and_65_states(self):
        self.same(len(ring(8) >> ring(7, read="x", letter="x", write="s", word="s")), 56)
        self.same(len(ring(64) >> ring(32, read="x", letter="x", write="s", word="")), 64)
        def tail(size):
            moves = [[("x", min(state + 1, size - 1))] for state in range(size)]
            return Reader("a", "x", "", moves, [""] * size)
        two = ring(2, read="x", letter="x", write="s", word="")
        self.same(len(tail(63) >> two), 64)
        self.too_large("states", 64, tail(64), two)
        self.too_large("states", 64, ring(9), ring(8, read="x", letter="x", write="s", word=""))
        self.too_large("states", 64, ring(64), ring(63, read="x", letter="x", write="s", word=""))

    def test_states_without_final_words_count(self):
        moves = [[("x", (state + 1) % 9)] for state in range(9)]
        first = Reader("a", "x", "", moves, [None] * 9)
        self.too_large("states", 64, first, ring(8, read="x", letter="x", write="s", word=""))

    def test_written_words(self):
        def second(size):
            return Reader("x", "s", "s" * 200, [[("s" * size, 0)]], ["s" * 200])
        for size, fits in ((100, True), (101, False)):
            for first in (Reader("a", "x", "xx", [[None]], [None]), Reader("a", "x", "", [[("xxxx", 0)]], [None]),
                          Reader("a", "x", "", [[None]], ["xx"])):
                if fits:
                    both = first >> second(size)
                    words = [both.first] + [move[0] for row in both.moves for move in row if move] + [
                        word for word in both.finals if word]
                    self.same(max(len(word) for word in words), 400)
                else:
                    self.too_large("written", 400, first, second(size))
        self.too_large("written", 400, Reader("a", "x", "", [[("x" * 400, 0)]], [None]), second(400))

    def test_states_are_told_before_words(self):
        first = Reader("a", "x", "x" * 400, [[("x", (state + 1) % 9)] for state in range(9)], [None] * 9)
        self.too_large("states", 64, first, ring(8, read="x", letter="x", write="s", word="ss"))
        self.too_large("written", 400, first, ring(7, read="x", letter="x", write="s", word="ss"))

    def test_words_of_pairs_that_are_not_found_do_not_count(self):
        first = Reader("a", "x", "", [[("x", 0)], [("x" * 400, 1)]], ["", "x" * 400])
        self.same(len(first >> Reader("x", "s", "", [[("ss", 0)]], [""])), 1)

    def test_three_in_turn(self):
        one = Reader("a", "x", "", [[("xx", 0)]], [""])
        two = Reader("x", "s", "s", [[("ss", 0)]], ["s"])
        three = Reader("s", "z", "z", [[("", 1)], [("z", 0)]], [None, "zz"])
        self.same(((one >> two) >> three).tell("a" * 3), (one >> (two >> three)).tell("a" * 3))
        self.same((one >> two >> three).tell("aaa"), None)
        self.same((one >> two).tell("aaa"), "s" * 14)

    def test_nothing_passed_changes(self):
        first, second = ring(3), ring(2, read="x", letter="x", write="s", word="s")
        before = reader_parts(first), reader_parts(second)
        self.fresh(lambda: (first >> second).moves)
        self.fresh(lambda: reader_machine(first).arcs)
        self.same((reader_parts(first), reader_parts(second)), before)
