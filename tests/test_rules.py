"""Tests of lagbound.rules: points [4] to [8] and [71] to [75]."""

from lagbound.acceptors import is_least_acceptor
from lagbound.errors import BadEntry, BadLetters, BadWord, Mismatch, TooLarge
from lagbound.readers import reader_machine
from lagbound.readertext import show_reader
from lagbound.rules import (Rules, cascade_reader, is_spots, pending, rewrite, rewrite_all, rule_reader, spots, untouched)
from lagbound.telling import told_words
from machine_samples import variants
from reader_samples import reader_parts, told_by
from support import HUGE, NO_ALPHABETS, NO_TEXTS, Case, same, seeded, words_up_to

EXAMPLE = [("ab", "b"), ("aba", "a"), ("b", "")]
STATES = {"what": "states", "limit": 64}


def read_by(pairs, word):
    """Point [72]: what is written, and the spots."""
    at, written, found = 0, "", []
    while at < len(word):
        lefts = [left for left, _ in pairs if word.startswith(left, at)]
        if lefts:
            left = max(lefts, key=len)
            written += dict(pairs)[left]
            found.append((at, left))
            at += len(left)
        else:
            written += word[at]
            at += 1
    return written, found


def pending_by(pairs, word):
    """Point [73]: what is written letter by letter, and the pending text."""
    written = text = ""
    for letter in word:
        text += letter
        while text and not any(left.startswith(text) and left != text for left, _ in pairs):
            lefts = [left for left, _ in pairs if text.startswith(left)]
            left = max(lefts, key=len) if lefts else None
            written += text[0] if left is None else dict(pairs)[left]
            text = text[1 if left is None else len(left):]
    return written, text


def random_pairs(source, letters="ab", most=5, left=4, right=3):
    word = lambda low, high: "".join(source.choice(letters) for _ in range(source.randint(low, high)))
    pairs = list({word(1, left): word(0, right) for _ in range(source.randint(0, most))}.items())
    source.shuffle(pairs)
    return pairs


def some_pairs(number, count, letters="ab"):
    source = seeded(number)
    return [random_pairs(source, letters, source.choice((2, 4, 8)), source.choice((2, 4, 6)), 3) for _ in range(count)]


class Making(Case):
    """Point [71]."""

    def test_pairs_in_order(self):
        rules = Rules("ab", [("ba", "a"), ("b", "aaaaaaaa"), ("ab", ""), ("aaaaaa", "b"), ("a", "a")])
        pairs = [("a", "a"), ("b", "aaaaaaaa"), ("ab", ""), ("ba", "a"), ("aaaaaa", "b")]
        self.same((rules.letters, rules.pairs, len(rules)), ("ab", pairs, 5))
        self.same(Rules("ab", tuple(reversed(pairs))).pairs, pairs)
        self.same((Rules("abcd", ()).pairs, len(Rules("z", []))), ([], 0))
        self.fresh(lambda: rules.pairs)

    def test_eight_pairs(self):
        words = words_up_to("ab", 3)[1:]
        self.same(len(Rules("ab", [(word, word) for word in words[:8]])), 8)
        for count in (9, 14):
            self.fails(BadEntry, {"place": "pairs", "index": None}, Rules, "ab", [(word, word) for word in words[:count]])
        self.fails(BadEntry, {"place": "pairs", "index": None}, Rules, "ab", [None] * 9)

    def test_wrong_alphabets_come_first(self):
        for value in NO_ALPHABETS:
            self.fails_with(BadLetters, value, Rules, value, None)
            self.fails_with(BadLetters, value, Rules, value, [])

    def test_wrong_lists(self):
        for value in (True, False, None, 0, 7, -HUGE, "", "ab", "a" * 9):
            self.fails(BadEntry, {"place": "pairs", "index": None}, Rules, "ab", value)

    def test_wrong_entries(self):
        good = ("a", "b")
        for value in NO_TEXTS + ("", "ab", ["a", "b"], ("a",), ("a", "b", ""), ("", "b"), ("a" * 7, "b"), ("a", "b" * 9), ("c", "b"),
                                 ("a", "c"), ("a", None), (None, "a"), ("-", "a"), ("a", "-"), (True, "a"), ("A", "a"), (("a",), "b")):
            for before in ([], [("b", "a")], [("bb", ""), ("ab", "")]):
                self.fails(BadEntry, {"place": "pairs", "index": len(before)}, Rules, "ab", before + [value, None])
                self.fails(BadEntry, {"place": "pairs", "index": len(before)}, Rules, "ab", tuple(before + [value, good, good]))

    def test_lefts_that_occur_twice(self):
        for again in (("a", "b"), ("a", ""), ("a", "bb")):
            self.fails(BadEntry, {"place": "pairs", "index": 2}, Rules, "ab", [("a", "b"), ("b", "b"), again])
        self.fails(BadEntry, {"place": "pairs", "index": 1}, Rules, "ab", [("a", "b"), ("a", "b"), None])

    def test_lists_are_copied(self):
        pairs = [("b", "a"), ("a", "b")]
        rules = Rules("ab", pairs)
        self.same(pairs, [("b", "a"), ("a", "b")])
        pairs.clear()
        self.same(rules.pairs, [("a", "b"), ("b", "a")])


class PlainReading(Case):
    """Points [8] and [72]."""

    def test_the_examples(self):
        rules = Rules("ab", EXAMPLE)
        self.same(spots(rules, "ababb"), [(0, "aba"), (3, "b"), (4, "b")])
        self.same(rewrite(rules, "aabb"), "ab")

    def test_random_rules(self):
        for letters in ("ab", "abc"):
            for pairs in some_pairs(281, 80, letters):
                rules = Rules(letters, pairs)
                for word in words_up_to(letters, 6 if letters == "ab" else 4):
                    written, found = read_by(pairs, word)
                    self.same(rewrite(rules, word), written)
                    self.same(spots(rules, word), found)
                    self.assertIs(is_spots(rules, word, found), True)

    def test_what_was_written_is_not_read_again(self):
        self.same(rewrite(Rules("ab", [("a", "aa"), ("aab", "b")]), "aab"), "b")
        self.same(rewrite(Rules("ab", [("ab", "a"), ("aa", "b")]), "abab"), "aa")
        self.same(rewrite(Rules("a", []), "aaa"), "aaa")

    def test_long_words(self):
        rules = Rules("ab", [("a", "bbbbbbbb"), ("ba", "")])
        self.same(len(rewrite(rules, "a" * 4000)), 32000)
        self.same(rewrite(rules, "ba" * 2000), "")
        self.same(spots(rules, "ba" * 2000), [(at, "ba") for at in range(0, 4000, 2)])

    def test_wrong_words(self):
        rules = Rules("ab", EXAMPLE)
        for value in NO_TEXTS + ("c", "-", "a b", "A", "a" * 4001, "a\n"):
            for function in (spots, rewrite):
                self.fails_with(BadWord, value, function, rules, value)

    def test_spots_wrong_at_a_single_place(self):
        count = 0
        for pairs in [EXAMPLE] + some_pairs(282, 12):
            rules = Rules("ab", pairs)
            for word in words_up_to("ab", 4):
                right = read_by(pairs, word)[1]
                for paper in variants(right, (True, False, None, 0, 1, 2, -1, HUGE, "", "a", "b", "ab", [], (), (0, "a"))):
                    self.assertIs(is_spots(rules, word, paper), same(paper, right), paper)
                    count += 1
        self.assertGreater(count, 5000)

    def test_judging_words_of_any_kind(self):
        rules = Rules("ab", EXAMPLE)
        self.assertIs(is_spots(rules, "b" * 6000, [(at, "b") for at in range(6000)]), True)
        self.assertIs(is_spots(rules, "b" * 6000, [(at, "b") for at in range(5999)]), False)
        self.assertIs(is_spots(rules, "", []), True)
        for value in NO_TEXTS + ("c", "-", "A", "a\n"):
            self.assertIs(is_spots(rules, value, []), False)
            self.assertIs(is_spots(rules, value, value), False)
        for paper in NO_TEXTS + ("", "b", ((0, "b"),), [[0, "b"]], [(False, "b")], [(0, "b"), (0, "b")], [(0,)], [(0, "b", "")], []):
            self.assertIs(is_spots(rules, "b", paper), False, paper)

    def test_fresh(self):
        self.fresh(lambda: spots(Rules("ab", EXAMPLE), "ababb"))


class RuleReader(Case):
    """Points [73] and [74]."""

    def test_the_example(self):
        text = "reader ab ab 2 -\nmove 0 a - 1\nmove 0 b b 0\nmove 1 a a 1\nmove 1 b b 0\nfinal 0 -\nfinal 1 a"
        self.same(show_reader(rule_reader(Rules("ab", [("ab", "b")]))), text)
        self.same(pending(Rules("ab", [("ab", "b")])), ["", "a"])

    def test_random_rules(self):
        large = 0
        for letters in ("ab", "abc"):
            for pairs in some_pairs(283, 80, letters):
                rules = Rules(letters, pairs)
                reader, texts = rule_reader(rules), pending(rules)
                self.same((reader.read, reader.write, reader.first), (letters, letters, ""))
                self.same(reader.finals, [read_by(pairs, text)[0] for text in texts])
                found, moves = [""], []
                for text in found:
                    row = []
                    for letter in letters:
                        written, rest = pending_by(pairs, text + letter)
                        if rest not in found:
                            found.append(rest)
                        row.append((written, found.index(rest)))
                    moves.append(row)
                self.same((texts, reader.moves), (found, moves))
                for word in words_up_to(letters, 6 if letters == "ab" else 4):
                    self.same(told_by(reader, word), read_by(pairs, word)[0])
                    written, text = pending_by(pairs, word)
                    self.same((reader.written_after(word), texts[reader.state_after(word)]), (written, text))
                large += len(texts) > 6
        self.assertGreater(large, 15)

    def test_no_rules(self):
        rules = Rules("abc", [])
        self.same(show_reader(rule_reader(rules)), "reader abc abc 1 -\nmove 0 a a 0\nmove 0 b b 0\nmove 0 c c 0\nfinal 0 -")
        self.same(pending(rules), [""])

    def test_as_many_states_as_fronts(self):
        # Each left has its proper fronts as pending texts; those of two letters or less are shared.
        most = 0
        for number in range(20):
            source = seeded(number)
            lefts = {"".join(source.choice("abcd") for _ in range(6)) for _ in range(8)}
            pairs = [(left, "abcdabcd") for left in sorted(lefts)]
            rules = Rules("abcd", pairs)
            fronts = {left[:size] for left, _ in pairs for size in range(6)}
            self.same(sorted(pending(rules)), sorted(fronts))
            most = max(most, len(rule_reader(rules)))
            self.assertLessEqual(len(rule_reader(rules)), 41)
        self.assertGreater(most, 30)
        self.same(len(rule_reader(Rules("ab", [("aaaaaa", "")]))), 6)

    def test_fresh(self):
        self.fresh(lambda: pending(Rules("ab", EXAMPLE)))
        self.fresh(lambda: rule_reader(Rules("ab", EXAMPLE)).moves)


class Untouched(Case):
    """Point [75]."""

    def test_random_rules(self):
        for letters in ("ab", "abc"):
            for pairs in some_pairs(284, 80, letters):
                acceptor = untouched(Rules(letters, pairs))
                self.assertIs(is_least_acceptor(acceptor), True)
                self.same(acceptor.letters, letters)
                for word in words_up_to(letters, 7 if letters == "ab" else 5):
                    expected = not any(left in word for left, _ in pairs)
                    self.assertIs(word in acceptor, expected)
                    self.assertEqual(expected, not read_by(pairs, word)[1])

    def test_edges(self):
        every = untouched(Rules("ab", []))
        self.same((every.moves, every.ends), ([[0, 0]], [0]))
        only_empty = untouched(Rules("ab", [("a", ""), ("b", "b")]))
        self.same((only_empty.moves, only_empty.ends), ([[1, 1], [1, 1]], [0]))
        pairs = [(left, "") for left in ("abcdab", "bcdabc", "cdabcd", "dabcda", "aaaaaa", "bbbbbb", "cccccc", "dddddd")]
        acceptor = untouched(Rules("abcd", pairs))
        self.assertIs("abcda" * 2 in acceptor, True)
        self.assertIs("abcdab" in acceptor, False)
        self.assertIs("aaaaabbbbbcccccddddd" * 3 in acceptor, True)


class Cascades(Case):
    """Point [75]."""

    def test_random_cascades(self):
        source = seeded(285)
        refused = 0
        for at in range(120):
            letters = ("ab", "ab", "abc")[at % 3]
            told = [random_pairs(source, letters, 3, 3, 2) for _ in range(source.randint(1, 4))]
            cascade = [Rules(letters, pairs) for pairs in told]
            try:
                reader = cascade_reader(cascade)
            except TooLarge:
                reader, refused = None, refused + 1
            for word in words_up_to(letters, 5 if letters == "ab" else 4):
                text = word
                for pairs in told:
                    text = read_by(pairs, text)[0]
                self.same(rewrite_all(cascade, word), text)
                if reader is not None:
                    self.same(told_by(reader, word), text)
        self.assertLess(refused, 60)

    def test_like_the_readers(self):
        first, second = Rules("ab", [("ab", "b")]), Rules("ab", [("bb", "a"), ("a", "bb")])
        reader = rule_reader(first) >> rule_reader(second)
        self.same(reader_parts(cascade_reader([first, second])), reader_parts(reader))
        third = Rules("ab", [("ba", "ab")])
        self.same(reader_parts(cascade_reader([first, second, third])), reader_parts(reader >> rule_reader(third)))
        self.same(reader_parts(cascade_reader([first])), reader_parts(rule_reader(first)))
        self.same(told_words(reader_machine(reader), "abab"), ([rewrite_all([first, second], "abab")], False))

    def test_rewritten_words_may_be_long(self):
        grow = Rules("ab", [("a", "a" * 8)])
        self.same(len(rewrite_all([grow, grow], "a" * 4000)), 256000)
        self.same(rewrite_all([grow, grow, Rules("ab", [("aaaa", "")])], "a" * 4000), "")
        # A move of the third reader would write 512 letters; the second one writes 64.
        self.same(cascade_reader([grow, grow]).moves[0][0], ("a" * 64, 0))
        self.fails(TooLarge, {"what": "written", "limit": 400}, cascade_reader, [grow, grow, grow])
        # The error is due although the whole cascade would be small.
        self.fails(TooLarge, {"what": "written", "limit": 400}, cascade_reader, [grow, grow, grow, Rules("ab", [("aa", "")])])
        self.same(rewrite_all([grow, grow, grow, Rules("ab", [("aa", "")])], "ab"), "b")

    def test_too_many_states(self):
        source = seeded(286)
        large = [Rules("abcd", [("".join(source.choice("abcd") for _ in range(6)), "abcd"[at % 4] * 2) for at in range(8)])
                 for _ in range(2)]
        self.fails(TooLarge, STATES, cascade_reader, large)
        self.same(rewrite_all(large, ""), "")

    def test_the_order_of_the_errors(self):
        first, second, third = Rules("ab", []), Rules("abc", []), Rules("bc", [("b", "")])
        for cascade in ([first, second], [first, first, second], [first, third], [first, first, first, third], [first, second, first]):
            self.fails(Mismatch, {}, rewrite_all, cascade, "ab")
            self.fails(Mismatch, {}, cascade_reader, cascade)
            for value in NO_TEXTS + ("c", "-", "a" * 4001):
                self.fails_with(BadWord, value, rewrite_all, cascade, value)
        for value in ("a", "ab", "-"):
            self.fails_with(BadWord, value, rewrite_all, [third, second], value)
        self.fails(Mismatch, {}, rewrite_all, [second, first], "c")
        # Mismatch comes before the limits of the readers.
        grow = Rules("ab", [("a", "a" * 8)])
        self.fails(Mismatch, {}, cascade_reader, [grow, grow, grow, second])

    def test_nothing_is_changed(self):
        cascade = [Rules("ab", EXAMPLE), Rules("ab", [("ab", "")])]
        before = list(cascade), [rules.pairs for rules in cascade]
        rewrite_all(cascade, "abab")
        cascade_reader(cascade)
        self.assertEqual(cascade, before[0])
        self.same([rules.pairs for rules in cascade], before[1])
        self.same(rewrite_all(cascade, "abab"), rewrite_all(cascade, "abab"))
