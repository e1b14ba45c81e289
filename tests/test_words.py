"""Tests of lagbound.words: points [3] and [5] to [12], and the examples of the interface."""

from lagbound import words
from lagbound.errors import BadLetters, BadName, BadNumber, BadWord
from support import HUGE, NO_ALPHABETS, NO_INTEGERS, NO_TEXTS, Case, same, seeded, words_up_to

ALPHABETS = ("a", "z", "ab", "xyz", "abcd", "aeiz")


class Alphabets(Case):
    """Points [7] and [9]."""

    def test_good_ones(self):
        for letters in ALPHABETS:
            self.assertIs(words.is_letters(letters), True)
            self.same(words.check_letters(letters), letters)

    def test_wrong_ones(self):
        for value in NO_ALPHABETS:
            self.assertIs(words.is_letters(value), False, value)
            self.fails_with(BadLetters, value, words.check_letters, value)

    def test_four_and_five_letters(self):
        self.assertTrue(words.is_letters("wxyz"))
        self.assertFalse(words.is_letters("vwxyz"))

    def test_wrong_alphabet_is_told_first_everywhere(self):
        for value in NO_ALPHABETS:
            self.fails_with(BadLetters, value, words.check_word, value, 5)
            self.fails_with(BadLetters, value, words.all_words, value, "x")
            self.fails_with(BadLetters, value, words.word_index, value, None)
            self.fails_with(BadLetters, value, words.word_at, value, -1)
            self.fails_with(BadLetters, value, words.read_shown, value, "")


class WordsOverLetters(Case):
    """Points [7] to [9]."""

    def test_is_word(self):
        for word in ("", "a", "b", "abba", "ab" * 5000):
            self.assertIs(words.is_word("ab", word), True)
        for value in NO_TEXTS + ("c", "abc", "A", "a b", "ab\n", "-", "ab" * 3000 + "c"):
            self.assertIs(words.is_word("ab", value), False)

    def test_is_word_takes_any_letters(self):
        for value in NO_ALPHABETS:
            for word in ("", "a", value):
                self.assertIs(words.is_word(value, word), False)

    def test_check_word(self):
        for word in ("", "a", "ba", "b" * 4000):
            self.same(words.check_word("ab", word), word)
        for value in NO_TEXTS + ("c", "abc", "a b", "-", "b" * 4001, "c" * 4000):
            self.fails_with(BadWord, value, words.check_word, "ab", value)


class Names(Case):
    """Point [12]."""

    def test_good_ones(self):
        for name in ("a", "z9", "m0", "abcdefghijkl", "a12345678901"):
            self.same(words.check_name(name), name)

    def test_wrong_ones(self):
        for value in NO_TEXTS + ("", "1a", "A", "aB", "a_", "a-b", "a b", " a", "a ", "a\n", "abcdefghijklm", "~"):
            self.fails_with(BadName, value, words.check_name, value)


class WordOrder(Case):
    """Point [10]."""

    def test_first_words(self):
        self.same(words.all_words("ab", 3)[:8], ["", "a", "b", "aa", "ab", "ba", "bb", "aaa"])

    def test_all_words(self):
        for letters in ALPHABETS:
            for most in range(7):
                self.same(words.all_words(letters, most), words_up_to(letters, most))

    def test_all_words_wrong_bound(self):
        for value in NO_INTEGERS + (-1, 7, HUGE, -HUGE):
            self.fails_with(BadNumber, value, words.all_words, "ab", value)

    def test_word_key(self):
        self.same(words.word_key(""), (0, ""))
        self.same(words.word_key("ba"), (2, "ba"))

    def test_sort_words(self):
        everything = words_up_to("abc", 4)
        shuffled = everything * 2
        seeded(1).shuffle(shuffled)
        kept = list(shuffled)
        self.same(words.sort_words(shuffled), everything)
        self.same(shuffled, kept)
        self.same(words.sort_words([]), [])
        self.same(words.sort_words(["b", "aa", "", "b"]), ["", "b", "aa"])

    def test_first_word(self):
        self.assertIsNone(words.first_word([]))
        self.same(words.first_word([""]), "")
        self.same(words.first_word(["aa", "b", "ab", "c"]), "b")
        self.same(words.first_word(["bb", "ba", "ab"]), "ab")


class Indexes(Case):
    """Point [10]: index and word."""

    def test_back_and_forth(self):
        for letters in ALPHABETS:
            for index, word in enumerate(words_up_to(letters, 4)):
                self.same(words.word_index(letters, word), index)
                self.same(words.word_at(letters, index), word)

    def test_long_words(self):
        for letters in ALPHABETS:
            for word in (letters[0] * 4000, letters[-1] * 4000, (letters * 4000)[:3999]):
                self.same(words.word_at(letters, words.word_index(letters, word)), word)

    def test_indexes_of_sixty_digits(self):
        for index in (HUGE, HUGE - 1, 10 ** 59, 10 ** 59 + 12345):
            for letters in ("ab", "xyz", "abcd"):
                self.same(words.word_index(letters, words.word_at(letters, index)), index)

    def test_the_last_word(self):
        for letters in ALPHABETS:
            last = words.word_index(letters, letters[-1] * 4000)
            self.same(words.word_at(letters, last), letters[-1] * 4000)
            for index in (last + 1, last * 5 + 1):
                self.fails_with(BadNumber, index, words.word_at, letters, index)
        self.same(words.word_at("a", 4000), "a" * 4000)
        self.fails(BadNumber, {"value": 4001}, words.word_at, "a", 4001)
        self.fails_with(BadNumber, HUGE, words.word_at, "a", HUGE)

    def test_wrong_indexes(self):
        for value in NO_INTEGERS + (-1, -HUGE):
            self.fails_with(BadNumber, value, words.word_at, "ab", value)

    def test_wrong_words(self):
        for value in NO_TEXTS + ("c", "a" * 4001, "-"):
            self.fails_with(BadWord, value, words.word_index, "ab", value)


class PrefixesAndLags(Case):
    """Point [11]."""

    def test_examples(self):
        self.same(words.lag_of("xxy", "xyy"), ("xy", "yy"))
        self.same(words.move_lag(("", "xy"), "xyx", "y"), ("x", "y"))

    def test_starts_and_cut(self):
        for word in words_up_to("ab", 4):
            for prefix in words_up_to("ab", 4):
                begins = word[:len(prefix)] == prefix
                self.assertIs(words.starts(prefix, word), begins)
                self.same(words.cut(prefix, word), word[len(prefix):] if begins else None)

    def test_common(self):
        self.assertIsNone(words.common([]))
        self.same(words.common(["ab"]), "ab")
        self.same(words.common(["ab", ""]), "")
        self.same(words.common(["abb", "abab", "ab", "abc"]), "ab")
        few = words_up_to("ab", 3)
        for first in few:
            for second in few:
                for third in few:
                    shared = [p for p in few if all(w.startswith(p) for w in (first, second, third))]
                    self.same(words.common([first, second, third]), max(shared, key=len))

    def test_lag_of(self):
        for first in words_up_to("ab", 4):
            for second in words_up_to("ab", 4):
                shared = words.common([first, second])
                lag = words.lag_of(first, second)
                self.same(lag, (first[len(shared):], second[len(shared):]))
                self.assertFalse(lag[0] and lag[1] and lag[0][0] == lag[1][0])

    def test_move_lag_of_a_lag(self):
        few = words_up_to("ab", 2)
        for first in few:
            for second in few:
                for more in few:
                    for other in few:
                        moved = words.move_lag(words.lag_of(first, second), more, other)
                        self.same(moved, words.lag_of(first + more, second + other))

    def test_move_lag_compares_the_whole(self):
        self.same(words.move_lag(("ab", "ab"), "c", ""), ("c", ""))
        self.same(words.move_lag(("a b\n~", "a b\n"), "", "~!"), ("", "!"))

    def test_long_words(self):
        self.same(words.lag_of("a" * 100000, "a" * 99999 + "b"), ("a", "b"))
        self.same(words.common(["a" * 50000, "a" * 60000]), "a" * 50000)

    def test_turn_word(self):
        self.same(words.turn_word(""), "")
        self.same(words.turn_word("abc"), "cba")


class ShownForms(Case):
    """Point [12]."""

    def test_show_word(self):
        self.same(words.show_word(""), "-")
        self.same(words.show_word("ab"), "ab")

    def test_read_shown(self):
        self.same(words.read_shown("ab", "-"), "")
        for word in words_up_to("ab", 3) + ["ab" * 2000]:
            self.same(words.read_shown("ab", words.show_word(word)), word)

    def test_read_shown_wrong(self):
        for value in NO_TEXTS + ("", "--", "a-", "-a", "c", "a b", "a ", "a" * 4001, "ab\n"):
            self.fails_with(BadWord, value, words.read_shown, "ab", value)


class Answers(Case):
    """Point [4]: lists are new, and nothing that is passed is changed."""

    def test_fresh_lists(self):
        self.fresh(lambda: words.all_words("ab", 3))
        passed = ["b", "a", "b"]
        self.fresh(lambda: words.sort_words(passed))
        self.same(passed, ["b", "a", "b"])

    def test_passed_lists_stay(self):
        passed = ["ba", "b"]
        words.common(passed)
        words.first_word(passed)
        self.same(passed, ["ba", "b"])

    def test_flags_are_flags(self):
        self.assertTrue(same([words.is_letters("ab"), words.starts("a", "b")], [True, False]))
