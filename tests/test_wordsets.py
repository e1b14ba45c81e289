"""Tests of lagbound.wordsets: points [4] to [7], [10] and [13] to [16]."""

from lagbound.acceptors import Acceptor, is_least_acceptor
from lagbound.errors import BadLetters, BadNumber, BadWord, Mismatch, TooLarge
from lagbound.wordsets import all_of, count_words, differ, least_word, none_of, only, words_of
from support import HUGE, NO_ALPHABETS, NO_INTEGERS, NO_TEXTS, Case, seeded, words_up_to
from test_acceptors import random_acceptor, ring, words_in


class AllAndNone(Case):
    def test_tables(self):
        for letters in ("a", "ab", "wxyz"):
            everything, nothing = all_of(letters), none_of(letters)
            row = [0] * len(letters)
            self.same((everything.letters, everything.moves, everything.ends), (letters, [row], [0]))
            self.same((nothing.letters, nothing.moves, nothing.ends), (letters, [row], []))

    def test_wrong_letters(self):
        for value in NO_ALPHABETS:
            self.fails_with(BadLetters, value, all_of, value)
            self.fails_with(BadLetters, value, none_of, value)


class Only(Case):
    def test_exactly_the_words(self):
        source = seeded(21)
        everything = words_up_to("ab", 5)
        for size in range(12):
            words = [source.choice(everything) for _ in range(size)]
            for passed in (words, tuple(words), words + words):
                result = only("ab", passed)
                self.assertEqual(words_in(result, 6), [word for word in everything if word in words])
                self.assertIs(is_least_acceptor(result), True)

    def test_no_words(self):
        for passed in ([], ()):
            self.same((only("abc", passed).moves, only("abc", passed).ends), ([[0, 0, 0]], []))

    def test_wrong_letters_first(self):
        for value in NO_ALPHABETS:
            self.fails_with(BadLetters, value, only, value, [None])

    def test_wrong_words(self):
        for value in NO_TEXTS + ("c", "abc", "-", "a b", "a" * 4001):
            for passed in ([value, None], ("a", value), ["a" * 4000, "b", value, 7]):
                self.assertIs(self.fails(BadWord, {}, only, "ab", passed).value, value)

    def test_prefixes_at_the_limit(self):
        result = only("a", ["a" * 254])
        self.same(len(result), 256)
        self.assertIn("a" * 254, result)
        self.fails(TooLarge, {"what": "states", "limit": 256}, only, "a", ["a" * 255])
        self.fails(TooLarge, {"what": "states", "limit": 256}, only, "ab", ["a" * 4000])

    def test_prefixes_of_several_words(self):
        # All words of at most 6 letters have 127 prefixes; 128 more make 255.
        everything = words_up_to("ab", 6)
        long_word = "a" * 6 + "b" * 128
        self.same(len(everything), 127)
        self.assertIn(long_word, only("ab", everything + [long_word, long_word]))
        self.fails(TooLarge, {"what": "states", "limit": 256}, only, "ab", everything + [long_word + "a"])
        # The least acceptor of these words has few states, but their prefixes count.
        self.same(len(only("ab", everything)), 8)
        self.fails(TooLarge, {"what": "states", "limit": 256}, only, "ab", words_up_to("ab", 7) + ["a" * 8])

    def test_all_items_are_checked_first(self):
        self.fails(BadWord, {"value": "c"}, only, "ab", ["a" * 4000, "c"])

    def test_passed_list_stays(self):
        passed = ["b", "a"]
        result = only("ab", passed)
        passed.append("")
        self.same(passed, ["b", "a", ""])
        self.assertNotIn("", result)


class WordsOf(Case):
    def test_words_in_order(self):
        source = seeded(22)
        for letters in ("a", "ab", "abc"):
            for _ in range(60):
                acceptor = random_acceptor(source, letters, 6)
                expected = words_in(acceptor, 6)
                if len(expected) >= 20:
                    self.same(words_of(acceptor), expected[:20])
                for most in (0, 1, 2, len(expected)):
                    if most <= 200:
                        self.same(words_of(acceptor, most=most), expected[:most])
                self.same(least_word(acceptor), (expected + [None])[0])

    def test_finite_sets(self):
        words = ["", "b", "ab", "bbbbbb"]
        acceptor = only("ab", words)
        for most in (3, 4, 5, 200):
            self.same(words_of(acceptor, most=most), words[:most])
        self.same(words_of(none_of("ab"), most=200), [])
        self.assertIsNone(least_word(none_of("ab")))
        self.same(least_word(all_of("ab")), "")

    def test_long_and_rare_words(self):
        acceptor = ring("a", 256, [255])
        self.same(words_of(acceptor, most=200), ["a" * (256 * turn + 255) for turn in range(200)])
        self.same(least_word(acceptor), "a" * 255)

    def test_states_that_no_word_reaches(self):
        acceptor = Acceptor("a", [[0], [0], [2]], [1, 2])
        self.same(words_of(acceptor), [])
        self.assertIsNone(least_word(acceptor))

    def test_two_hundred(self):
        self.same(words_of(all_of("ab"), most=200), words_up_to("ab", 7)[:200])

    def test_wrong_most(self):
        for value in NO_INTEGERS + (-1, 201, HUGE, -HUGE):
            self.fails_with(BadNumber, value, words_of, all_of("ab"), most=value)

    def test_fresh(self):
        acceptor = all_of("ab")
        self.fresh(lambda: words_of(acceptor))


class CountWords(Case):
    def test_counts(self):
        source = seeded(23)
        for _ in range(60):
            acceptor = random_acceptor(source, "ab", 6)
            found = words_in(acceptor, 7)
            for length in range(8):
                self.same(count_words(acceptor, length), sum(len(word) == length for word in found))

    def test_large_counts(self):
        self.same(count_words(all_of("abcd"), 1000), 4 ** 1000)
        self.same(count_words(none_of("abcd"), 1000), 0)
        self.same(count_words(all_of("ab"), 0), 1)

    def test_wrong_length(self):
        for value in NO_INTEGERS + (-1, 1001, HUGE, -HUGE):
            self.fails_with(BadNumber, value, count_words, all_of("ab"), value)


class Differ(Case):
    def test_least_parting_word(self):
        source = seeded(24)
        for letters in ("a", "ab"):
            for _ in range(120):
                first, second = random_acceptor(source, letters, 4), random_acceptor(source, letters, 4)
                most = len(first) + len(second) - 1
                in_first, in_second = words_in(first, most), words_in(second, most)
                expected = [w for w in words_up_to(letters, most) if (w in in_first) != (w in in_second)]
                self.same(differ(first, second), (expected + [None])[0])

    def test_many_pairs(self):
        # 200 and 199 have no common divisor, so 39800 pairs are found, and raise no error.
        first, second = ring("a", 200, list(range(200))), ring("a", 199, list(range(199)))
        self.assertIsNone(differ(first, second))
        late = differ(ring("a", 200, [199]), ring("a", 256, [199]))
        self.same(late, "a" * 399)
        self.same(differ(ring("ab", 255, [254]), ring("ab", 256, [254, 255])), "a" * 255)

    def test_mismatch(self):
        self.fails(Mismatch, {}, differ, all_of("ab"), all_of("a"))
        self.fails(Mismatch, {}, differ, none_of("a"), none_of("b"))
