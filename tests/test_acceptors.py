"""Tests of lagbound.acceptors: points [3] to [8] and [13] to [16]."""

from lagbound.acceptors import Acceptor, is_least_acceptor, least_acceptor
from lagbound.errors import BadEntry, BadLetters, BadWord, Mismatch, TooLarge
from support import HUGE, NO_ALPHABETS, NO_INTEGERS, NO_TEXTS, Case, seeded, spoil, words_up_to


def random_acceptor(source, letters, most):
    size = source.randint(1, most)
    moves = [[source.randrange(size) for _ in letters] for _ in range(size)]
    return Acceptor(letters, moves, [state for state in range(size) if source.random() < 0.4])


def ring(letters, size, ends):
    """An acceptor that counts letters modulo size."""
    return Acceptor(letters, [[(state + 1) % size] * len(letters) for state in range(size)], ends)


def words_in(acceptor, most):
    """The accepted words of at most `most` letters, read off the moves."""
    found = []
    for word in words_up_to(acceptor.letters, most):
        state = 0
        for letter in word:
            state = acceptor.moves[state][acceptor.letters.index(letter)]
        if state in acceptor.ends:
            found.append(word)
    return found


def unlike_pairs(moves, ends):
    """The pairs of states that some word tells apart, by filling the table of pairs."""
    size = len(moves)
    unlike = {(p, q) for p in range(size) for q in range(size) if (p in ends) != (q in ends)}
    grown = True
    while grown:
        more = {(p, q) for p in range(size) for q in range(size)
                if any(pair in unlike for pair in zip(moves[p], moves[q]))}
        grown = not more <= unlike
        unlike |= more
    return unlike


def numbered_by_finding(moves):
    order = [0]
    for state in order:
        for target in moves[state]:
            if target not in order:
                order.append(target)
    return order == list(range(len(moves)))


class Constructor(Case):
    """Points [5] to [7] and [13]."""

    def test_keeps_copies(self):
        moves, ends = [[1, 0], (0, 1)], [1, 0, 1]
        acceptor = Acceptor("ab", moves, ends)
        moves[0].append(7)
        moves.append([0, 0])
        ends.clear()
        self.same(acceptor.letters, "ab")
        self.same(acceptor.moves, [[1, 0], [0, 1]])
        self.same(acceptor.ends, [0, 1])
        self.same(len(acceptor), 2)

    def test_tuples(self):
        acceptor = Acceptor("a", ((0,),), ())
        self.same((acceptor.moves, acceptor.ends, len(acceptor)), ([[0]], [], 1))

    def test_properties_give_new_lists(self):
        acceptor = Acceptor("ab", [[1, 0], [0, 1]], [1])
        self.fresh(lambda: acceptor.moves)
        self.fresh(lambda: acceptor.ends)
        self.assertIn("a", acceptor)

    def test_properties_are_not_assigned(self):
        acceptor = Acceptor("a", [[0]], [0])
        for name in ("letters", "moves", "ends"):
            with self.assertRaises(Exception):
                setattr(acceptor, name, None)

    def test_wrong_letters_first(self):
        for value in NO_ALPHABETS:
            self.fails_with(BadLetters, value, Acceptor, value, None, None)

    def test_wrong_moves(self):
        for value in (None, True, 0, 5, HUGE, "", "ab", [], ()):
            self.fails(BadEntry, {"place": "moves", "index": None}, Acceptor, "ab", value, None)

    def test_wrong_rows(self):
        rows = [None, True, 0, "00", [], [0], [0, 0, 0], (0,), [[0], 0], [0, [0]], [0, 2], [-1, 0], [0, HUGE], [0, -HUGE]]
        rows += [[value, 0] for value in NO_INTEGERS] + [(0, value) for value in NO_INTEGERS]
        for row in rows:
            self.fails(BadEntry, {"place": "moves", "index": 0}, Acceptor, "ab", [row, [0, 1]], None)
            self.fails(BadEntry, {"place": "moves", "index": 1}, Acceptor, "ab", ([1, 1], row), [5])
        self.fails(BadEntry, {"place": "moves", "index": 1}, Acceptor, "ab", [[0, 1], [3, 0], None], [])

    def test_wrong_ends(self):
        for value in (None, False, 0, HUGE, "", "0"):
            self.fails(BadEntry, {"place": "ends", "index": None}, Acceptor, "a", [[0]], value)
        for value in NO_INTEGERS + (2, -1, HUGE, -HUGE):
            self.fails(BadEntry, {"place": "ends", "index": 0}, Acceptor, "a", [[0], [1]], [value])
            self.fails(BadEntry, {"place": "ends", "index": 2}, Acceptor, "a", [[0], [1]], (1, 0, value, None))

    def test_states_at_the_limit(self):
        acceptor = ring("a", 256, [255])
        self.same(len(acceptor), 256)
        self.same(acceptor.state_after("a" * 255), 255)
        self.fails(TooLarge, {"what": "states", "limit": 256}, Acceptor, "a", [[0]] * 257, None)
        self.fails(TooLarge, {"what": "states", "limit": 256}, Acceptor, "a", [None] * 257, [])
        self.fails(BadEntry, {"place": "moves", "index": 0}, Acceptor, "a", [None] * 256, [])

    def test_many_equal_ends(self):
        self.same(Acceptor("a", [[0], [0]], [1, 0] * 1000).ends, [0, 1])


class Accepting(Case):
    """Points [7] and [13]."""

    def test_words(self):
        acceptor = Acceptor("ab", [[1, 0], [1, 2], [1, 0]], [2])
        for word in words_up_to("ab", 6):
            self.assertIs(word in acceptor, word.endswith("ab"))

    def test_empty_word(self):
        self.assertIs("" in Acceptor("a", [[0]], [0]), True)
        self.assertIs("" in Acceptor("a", [[0]], []), False)

    def test_long_words(self):
        acceptor = ring("a", 7, [3])
        self.assertIs("a" * (7 * 10000 + 3) in acceptor, True)
        self.assertIs("a" * (7 * 10000 + 4) in acceptor, False)

    def test_other_values_are_not_in(self):
        acceptor = Acceptor("ab", [[0, 0]], [0])
        for value in NO_TEXTS + ("c", "abc", "-", "A", "a b", "a\n"):
            self.assertIs(value in acceptor, False)

    def test_state_after(self):
        acceptor = Acceptor("ab", [[1, 0], [1, 2], [1, 0]], [2])
        self.same([acceptor.state_after(word) for word in ("", "a", "ab", "abb", "abba")], [0, 1, 2, 0, 1])
        self.same(acceptor.state_after("b" * 4000), 0)

    def test_state_after_wrong_words(self):
        acceptor = Acceptor("ab", [[0, 0]], [0])
        for value in NO_TEXTS + ("c", "abc", "-", "a b", "a" * 4001):
            self.fails_with(BadWord, value, acceptor.state_after, value)


class Least(Case):
    """Points [14] and [15]."""

    def test_least_and_numbered(self):
        source = seeded(13)
        for letters in ("a", "ab", "abc"):
            for _ in range(150):
                acceptor = random_acceptor(source, letters, 8)
                least = least_acceptor(acceptor)
                self.same(least.letters, letters)
                self.assertEqual(words_in(least, 5), words_in(acceptor, 5))
                self.assertTrue(numbered_by_finding(least.moves))
                unlike = unlike_pairs(least.moves, least.ends)
                self.assertEqual(len(unlike), len(least) * (len(least) - 1))
                self.assertIs(is_least_acceptor(least), True)
                changed = acceptor.moves != least.moves or acceptor.ends != least.ends
                self.assertIs(is_least_acceptor(acceptor), not changed)

    def test_equal_sets_give_equal_tables(self):
        source = seeded(14)
        for _ in range(100):
            acceptor = random_acceptor(source, "ab", 6)
            size = len(acceptor)
            # The same set with each state twice, in mixed order.
            order = list(range(2 * size))
            source.shuffle(order)
            while order[0] % size:
                source.shuffle(order)
            place = {state: number for number, state in enumerate(order)}
            moves = [[place[target + source.choice((0, size))] for target in acceptor.moves[state % size]]
                     for state in order]
            double = Acceptor("ab", moves, [place[end + more] for end in acceptor.ends for more in (0, size)])
            first, second = least_acceptor(acceptor), least_acceptor(double)
            self.same((first.moves, first.ends), (second.moves, second.ends))

    def test_the_numbering_counts(self):
        self.assertIs(is_least_acceptor(Acceptor("ab", [[1, 2], [1, 1], [2, 1]], [1])), True)
        self.assertIs(is_least_acceptor(Acceptor("ab", [[2, 1], [1, 2], [2, 2]], [2])), False)

    def test_no_words(self):
        least = least_acceptor(Acceptor("ab", [[1, 0], [0, 1], [2, 2]], [2]))
        self.same((least.moves, least.ends), ([[0, 0]], []))

    def test_at_the_limit(self):
        self.same(len(least_acceptor(ring("a", 256, [255]))), 256)
        self.same(len(least_acceptor(ring("ab", 256, [0, 128]))), 128)

    def test_nothing_passed_changes(self):
        acceptor = Acceptor("ab", [[1, 0], [0, 1]], [0, 1])
        least_acceptor(acceptor)
        self.same((acceptor.moves, acceptor.ends), ([[1, 0], [0, 1]], [0, 1]))
        self.fresh(lambda: least_acceptor(acceptor).moves)


class Operators(Case):
    """Points [4], [6], [7] and [16]."""

    def test_words(self):
        source = seeded(15)
        for letters in ("a", "ab"):
            for _ in range(80):
                first, second = random_acceptor(source, letters, 5), random_acceptor(source, letters, 5)
                in_first, in_second = words_in(first, 6), words_in(second, 6)
                for result, expected in (
                    (first & second, [w for w in words_up_to(letters, 6) if w in in_first and w in in_second]),
                    (first | second, [w for w in words_up_to(letters, 6) if w in in_first or w in in_second]),
                    (~first, [w for w in words_up_to(letters, 6) if w not in in_first]),
                ):
                    self.assertEqual(words_in(result, 6), expected)
                    self.assertIs(is_least_acceptor(result), True)
                    self.same(result.letters, letters)

    def test_mismatch(self):
        first, second = Acceptor("a", [[0]], [0]), Acceptor("b", [[0]], [0])
        self.fails(Mismatch, {}, lambda: first & second)
        self.fails(Mismatch, {}, lambda: first | second)
        self.fails(Mismatch, {}, lambda: ring("a", 17, []) & ring("ab", 16, []))

    def test_pairs_at_the_limit(self):
        # 16 and 17, and 128 and 3, have no common divisor, so all their pairs are found.
        self.same(len(ring("a", 256, [0]) & ring("a", 1, [0])), 256)
        self.same(len(ring("a", 256, [0]) | ring("a", 128, [0])), 128)
        too_large = {"what": "states", "limit": 256}
        for first, second in ((ring("a", 16, [0]), ring("a", 17, [0])), (ring("a", 128, []), ring("a", 3, [0]))):
            self.fails(TooLarge, too_large, lambda: first & second)
            self.fails(TooLarge, too_large, lambda: first | second)

    def test_257_pairs(self):
        # With a ring of two, only the last state of a line is found twice: a line of 255 gives 256 pairs.
        def line(size):
            moves = [[min(state + 1, size - 1)] for state in range(size)]
            return Acceptor("a", moves, [])
        self.same(len(line(256) & ring("a", 1, [])), 1)
        self.same(len(line(255) & ring("a", 2, [0])), 1)
        self.same(len(line(255) | ring("a", 2, [])), 1)
        self.fails(TooLarge, {"what": "states", "limit": 256}, lambda: line(256) & ring("a", 2, [0]))
        self.fails(TooLarge, {"what": "states", "limit": 256}, lambda: line(256) | ring("a", 2, []))

    def test_pairs_are_those_as_passed(self):
        # Both stand for all words, but their states are counted as they were passed.
        first, second = ring("a", 16, list(range(16))), ring("a", 17, list(range(17)))
        self.fails(TooLarge, {"what": "states", "limit": 256}, lambda: first & second)
        self.same(len(least_acceptor(first) & second), 1)

    def test_pairs_that_no_word_reaches_do_not_count(self):
        self.same(len(ring("a", 200, [0]) & ring("a", 100, [0])), 200)

    def test_nothing_passed_changes(self):
        first, second = Acceptor("a", [[1], [0]], [0]), Acceptor("a", [[0]], [0])
        for result in (first & second, first | second, ~first):
            spoil(result.moves)
            spoil(result.ends)
        self.same((first.moves, first.ends, second.moves, second.ends), ([[1], [0]], [0], [[0]], [0]))
        self.same(((first & second).moves, (first & second).ends), ([[1], [0]], [0]))
        self.same(((~first).moves, (~first).ends), ([[1], [0]], [1]))
