"""Tests of lagbound.teaching: points [4] to [8] and [76] to [79]."""

from lagbound.alike import reader_parting
from lagbound.errors import BadNumber, BadWord, Mismatch, TooLarge
from lagbound.least import least
from lagbound.learning import Learner
from lagbound.readers import Reader, empty_reader
from lagbound.readertext import show_reader
from lagbound.teaching import Teacher, is_lesson, learn, lesson
from machine_samples import variants
from reader_samples import disguised, full_reader, random_reader, reader_parts, spoilt_reader, told_by, wheel
from support import HUGE, NO_NUMBERS, NO_TEXTS, Case, seeded, words_up_to

PARTS = ("ab", "xy", "y", [[("x", 1), None], [("", 0), ("xy", 1)]], [None, "xx"])


def told(teacher):
    return teacher.read, teacher.write, teacher.words_asked, teacher.wholes_asked, len(teacher), list(teacher)


class Asking(Case):
    """Point [76]."""

    def test_the_log(self):
        reader = Reader(*PARTS)
        teacher = Teacher(reader)
        self.same(told(teacher), ("ab", "xy", 0, 0, 0, []))
        self.same([teacher.ask(word) for word in ("a", "", "ab", "a")], ["yxxx", None, "yxxyxx", "yxxx"])
        other = empty_reader("ab", "xy")
        self.same((teacher.whole(other), teacher.whole(reader), teacher.ask("b")), ("a", None, None))
        rows = [("word", "a", "yxxx"), ("word", "", None), ("word", "ab", "yxxyxx"), ("word", "a", "yxxx"),
                ("whole", "reader ab xy 1 -", "a"), ("whole", show_reader(reader), None), ("word", "b", None)]
        self.same(told(teacher), ("ab", "xy", 5, 2, 7, rows))
        self.same(reader_parts(reader), PARTS)

    def test_random_readers(self):
        source = seeded(291)
        alike = 0
        for _ in range(100):
            reader = full_reader(source)
            teacher = Teacher(reader)
            for word in words_up_to("ab", 3):
                self.same(teacher.ask(word), told_by(reader, word))
            other = disguised(source, reader)
            other = spoilt_reader(source, other) if source.random() < 0.6 else other
            paper = reader_parting(reader, other)
            self.same(teacher.whole(other), paper and paper[0])
            self.same(list(teacher)[-1], ("whole", show_reader(other), paper and paper[0]))
            alike += paper is None
        self.assertGreater(alike, 20)

    def test_questions_that_raise_errors_are_not_kept(self):
        teacher = Teacher(Reader(*PARTS))
        teacher.ask("a")
        before = told(teacher)
        for value in NO_TEXTS + ("x", "-", "a b", "A", "a" * 4001, "a\n"):
            self.fails_with(BadWord, value, teacher.ask, value)
        for read, write in (("a", "xy"), ("ab", "x"), ("xy", "ab")):
            self.fails(Mismatch, {}, teacher.whole, empty_reader(read, write))
        self.same(told(teacher), before)
        self.same(teacher.ask("a" * 4000), None)
        self.same(teacher.words_asked, 2)

    def test_returned_lists(self):
        teacher = Teacher(Reader(*PARTS))
        teacher.ask("a")
        rows = list(teacher)
        rows.clear()
        self.same(len(list(teacher)), 1)


class Learning(Case):
    """Points [77] and [78]."""

    def learned(self, reader, most):
        """The answer of learn, after all that is promised about the questions was looked at."""
        teacher = Teacher(reader)
        found = learn(teacher, most=most)
        self.same(show_reader(found), show_reader(least(reader)))
        rows = list(teacher)
        self.same(rows[-1], ("whole", show_reader(found), None))
        self.all_right(reader, rows[:-1])
        self.assertIs(is_lesson(reader, (rows, show_reader(found))), True)
        return found

    def all_right(self, reader, rows):
        """No word was asked twice, and no whole reader was the answer yet."""
        words = [word for kind, word, _ in rows if kind == "word"]
        self.assertEqual(len(words), len(set(words)))
        for kind, word, answer in rows:
            if kind == "word":
                self.same(answer, told_by(reader, word))
            else:
                self.assertIsNotNone(answer)

    def test_random_readers(self):
        source = seeded(292)
        sizes = {}
        for at in range(300):
            reader = random_reader(source, read=("a", "ab", "abc")[at % 3], most=6) if at % 2 else full_reader(source, most=6)
            size = len(least(reader))
            for most in {size, min(64, size + 1), 16}:
                self.learned(reader, most)
            if size > 1:
                self.too_many(reader, size - 1)
                self.too_many(reader, 1)
            sizes[size] = sizes.get(size, 0) + 1
        self.assertGreater(sum(count for size, count in sizes.items() if size > 3), 60)

    def too_many(self, reader, most):
        """More states than `most` in the least form, whose words are short enough for the promise."""
        teacher = Teacher(reader)
        self.fails(TooLarge, {"what": "states", "limit": most}, learn, teacher, most=most)
        self.all_right(reader, list(teacher))

    def test_the_longest_words_that_are_promised(self):
        source = seeded(293)
        answers = {True: 0, False: 0}
        for at in range(300):
            most = source.choice((1, 2, 3, 4, 6, 8, 12, 16, 24, 32, 60))
            longest = min(400 // (most + 1), 3600 // (most * most))
            size = source.choice((most, most, min(64, most + 1), min(64, most + 4)))
            reader = self.long_worded(source, size, longest // 2 if at % 3 == 0 else longest, "ab"[:1 + (at % 4 > 0)])
            try:
                form = least(reader)
            except TooLarge:
                continue
            words = [form.first] + [move[0] for row in form.moves for move in row if move] + [row for row in form.finals if row]
            if max(map(len, words)) <= longest:
                if len(form) <= most:
                    self.learned(reader, most)
                else:
                    self.too_many(reader, most)
                answers[len(form) <= most] += size > 1
        self.assertGreater(min(answers.values()), 30)

    def long_worded(self, source, size, longest, read):
        """A random reader whose words have as many letters as they may, and begin with unlike letters for unlike letters."""
        def word(sign):
            length = source.choice((0, longest, longest, source.randint(0, longest)))
            return (sign + "x" * length)[:length]
        moves = [[(word("xy"[place]), source.choice(((state + 1) % size, source.randrange(size)))) for place in range(len(read))]
                 for state in range(size)]
        finals = [source.choice(("", word("x"))) if source.random() < 0.6 else None for _ in range(size)]
        return Reader(read, "xy", word("x"), moves, finals)

    def test_64_states(self):
        self.learned(wheel(64, lambda state: "", lambda state: "" if state == 63 else None), 64)
        self.learned(wheel(64, lambda state: "", lambda state: "x" if state == 63 else ""), 64)
        self.too_many(wheel(64, lambda state: "", lambda state: "x" if state == 63 else ""), 63)
        self.learned(wheel(60, lambda state: "x", lambda state: "y" if state == 59 else ""), 60)
        source = seeded(294)
        moves = [[("", source.randrange(64)) for _ in "abcd"] for _ in range(64)]
        reader = Reader("abcd", "x", "", moves, [source.choice(("", "x", None)) for _ in range(64)])
        self.learned(reader, 64)
        self.too_many(reader, len(least(reader)) - 1)

    def test_most_is_16_unless_told(self):
        for size, error in ((16, False), (17, True)):
            teacher = Teacher(wheel(size, lambda state: "", lambda state: "" if state == 0 else None))
            if error:
                self.fails(TooLarge, {"what": "states", "limit": 16}, learn, teacher)
            else:
                self.same(len(learn(teacher)), 16)

    def test_readers_that_take_nothing(self):
        for reader in (empty_reader("abcd", "x"), Reader("ab", "xy", "x", [[("x", 0), ("y", 1)], [None, None]], [None, None])):
            for most in (1, 64):
                found = self.learned(reader, most)
                self.same(reader_parts(found), reader_parts(empty_reader(reader.read, reader.write)))

    def test_one_state(self):
        for first, word, last in (("", "", ""), ("x" * 100, "x", ""), ("", "xy" * 50, ""), ("y", "yx", "")):
            reader = Reader("ab", "xy", first, [[(word, 0), None]], [last])
            self.learned(reader, 1)
        # All tails begin with y, and the reader tells it late.
        self.same(self.learned(Reader("a", "xy", "x", [[("", 0)]], ["y"]), 1).first, "xy")

    def test_wrong_numbers(self):
        teacher = Teacher(Reader(*PARTS))
        for value in NO_NUMBERS + (0, 65):
            self.fails_with(BadNumber, value, learn, teacher, most=value)
        self.same(len(teacher), 0)

    def test_questions_stay_after_an_error(self):
        reader = wheel(5, lambda state: "x", lambda state: "" if state == 0 else None)
        teacher = Teacher(reader)
        self.fails(TooLarge, {"what": "states", "limit": 4}, learn, teacher, most=4)
        rows = list(teacher)
        self.assertGreater(len(rows), 0)
        learn(teacher, most=5)
        self.same(list(teacher)[:len(rows)], rows)
        # Within one call no word is asked twice, but words of the log may be.
        again = [row[1] for row in list(teacher)[len(rows):] if row[0] == "word"]
        self.assertEqual(len(again), len(set(again)))

    def test_readers_without_a_least_form(self):
        # The early form would have a word of 401 letters or more.
        for reader in (Reader("a", "x", "x" * 200, [[None]], ["x" * 201]),
                       Reader("ab", "xy", "", [[("x" * 300, 1), ("y", 1)], [("x" * 150, 2), None], [None, None]], [None, None, "x"]),
                       wheel(3, lambda state: "x" * 300, lambda state: "y" if state == 2 else None)):
            self.fails(TooLarge, {"what": "written", "limit": 400}, least, reader)
            for most in (1, 2, 3, 16, 64):
                teacher = Teacher(reader)
                with self.assertRaises((TooLarge, BadWord)) as caught:
                    learn(teacher, most=most)
                if isinstance(caught.exception, TooLarge):
                    self.assertIn((caught.exception.what, caught.exception.limit), [("states", most), ("written", 400)])
                self.assertGreater(len(teacher), 0)

    def test_short_endings(self):
        # A word with a told word behind a long ending alone gets an ending with less letters than there may be states.
        reader = wheel(5, lambda state: "x", lambda state: "" if state == 0 else None)
        for length, most in ((4, 5), (9, 5), (14, 5), (44, 5), (44, 6), (44, 10)):
            learner = Learner(Teacher(reader), most)
            self.same(learner.missing_short(), [])
            learner.add_endings(["a" * length])
            expected = [] if length < most else ["a" * size for size in range(4, -1, -1)]
            self.same(learner.missing_short(), expected)
            self.same(learner.missing_short(), [])
        for length, most in ((4, 4), (9, 4), (44, 1)):
            learner = Learner(Teacher(reader), most)
            learner.add_endings(["a" * length])
            self.fails(TooLarge, {"what": "states", "limit": most}, learner.missing_short)
        # The stretch that is left out may stand anywhere among the first letters.
        moves = [[("", 1), None], [("", 2), ("", 1)], [None, ("", 3)], [None, None]]
        learner = Learner(Teacher(Reader("ab", "x", "", moves, [None, None, None, ""])), 4)
        learner.add_endings(["abbbbab"])
        self.same(learner.missing_short(), ["aab", "ab", "b", ""])

    def test_nothing_else_is_changed(self):
        reader = Reader(*PARTS)
        teacher, other = Teacher(reader), Teacher(reader)
        found = learn(teacher)
        self.same(reader_parts(reader), PARTS)
        self.same(reader_parts(learn(other)), reader_parts(found))
        self.same(list(other), list(teacher))


class Lessons(Case):
    """Points [8] and [79]."""

    def test_lessons_of_learners(self):
        source = seeded(295)
        for at in range(60):
            reader = random_reader(source) if at % 2 else full_reader(source)
            teacher = Teacher(reader)
            found = learn(teacher)
            paper = lesson(teacher, found)
            self.same(paper, (list(teacher), show_reader(found)))
            self.assertIs(is_lesson(reader, paper), True)
            self.assertIs(is_lesson(disguised(source, reader), paper), True)
            other = spoilt_reader(source, reader)
            if reader_parting(reader, other):
                self.assertIs(is_lesson(other, paper), False)

    def test_whatever_the_log_holds(self):
        teacher = Teacher(Reader(*PARTS))
        other = empty_reader("a", "x")
        self.same(lesson(teacher, other), ([], "reader a x 1 -"))
        self.assertIs(is_lesson(Reader(*PARTS), lesson(teacher, Reader(*PARTS))), False)
        teacher.ask("a")
        self.same(lesson(teacher, other), ([("word", "a", "yxxx")], "reader a x 1 -"))
        self.fresh(lambda: lesson(teacher, other))

    def test_any_learner(self):
        reader = Reader(*PARTS)
        text = show_reader(reader)
        last = ("whole", text, None)
        for rows in ([last], [last, last], [("word", "", None), last], [("whole", "reader ab xy 1 -", "a"), last],
                     [("word", "a" * 6001, told_by(reader, "a" * 6001)), last], [last, ("word", "b", None), last],
                     [("word", "a", "yxxx"), ("word", "", None), ("whole", "reader ab xy 1 -", "a"), last]):
            self.assertIs(is_lesson(reader, (rows, text)), True, rows)
        for rows in ([], [("word", "", None)], [last, ("word", "", None)], [("word", "a", None), last], [("word", "", ""), last],
                     [("word", "", None), ("word", "", None), last], [("word", "c", None), last], [("word", "a", "yxx"), last],
                     [("whole", "reader ab xy 1 -", None), last], [("whole", "reader ab xy 1 -", "aa"), last],
                     [("whole", "reader ab xy 1 -", "aaa"), last], [("whole", "reader ab xy 1 -", ""), last],
                     [("whole", "reader a xy 1 -", "a"), last], [("whole", "reader ab x 1 -", "a"), last],
                     [("whole", "reader ab xy 1", "a"), last], [("whole", "reader ab xy 1 -\n", "a"), last],
                     [("whole", "", "a"), last], [("tell", "", None), last], [("word", None, None), last],
                     [("whole", "machine ab xy 1", "a"), last], [("whole", text, "a")], [("whole", text, False)],
                     [("whole", text, "")], [("whole", "reader ab xy 1 -", "a")]):
            self.assertIs(is_lesson(reader, (rows, text)), False, rows)
        self.assertIs(is_lesson(reader, ([last], text + "\n")), False)
        self.assertIs(is_lesson(reader, ([last], "reader ab xy 1 -")), False)

    def test_the_text_must_be_the_shown_one(self):
        reader = Reader(*PARTS)
        text = show_reader(reader)
        head, *lines = text.split("\n")
        turned = "\n".join([head] + lines[::-1])
        self.assertIs(is_lesson(reader, ([("whole", turned, None)], turned)), False)
        self.assertIs(is_lesson(reader, ([("whole", turned, None), ("whole", text, None)], text)), False)
        # Another reader that is alike is as good as the least form.
        other = show_reader(disguised(seeded(296), reader))
        self.assertIs(is_lesson(reader, ([("whole", other, None)], other)), True)

    def test_wrong_at_a_single_place(self):
        reader = Reader("ab", "xy", "", [[("x", 1), None], [("y", 0), ("xy", 1)]], [None, ""])
        teacher = Teacher(reader)
        found = learn(teacher)
        paper = lesson(teacher, found)
        self.assertGreater(len(paper[0]), 4)
        fillers = (True, False, None, 0, 1, HUGE, "", "a", "ab", "x", "xy", "word", "whole", "reader ab xy 1 -", paper[1], [], (),
                   ("word", "b", None), ("word", "bbbb", None), ("whole", paper[1], None))
        wrong = 0
        for other in variants(paper, fillers):
            expected = self.really_lesson(reader, other)
            self.assertIs(is_lesson(reader, other), expected, other)
            wrong += not expected
        self.assertGreater(wrong, 300)

    def really_lesson(self, reader, paper):
        if type(paper) is not tuple or len(paper) != 2 or type(paper[0]) is not list or not paper[0] or type(paper[1]) is not str:
            return False
        texts = {show_reader(reader): None, show_reader(least(reader)): None, "reader ab xy 1 -": reader_parting(
            reader, empty_reader("ab", "xy"))[0]}
        asked = []
        for row in paper[0]:
            if type(row) is not tuple or len(row) != 3 or type(row[0]) is not str or type(row[1]) is not str:
                return False
            if row[2] is not None and type(row[2]) is not str:
                return False
            if row[0] == "word":
                if set(row[1]) - {"a", "b"} or row[1] in asked or row[2] != told_by(reader, row[1]):
                    return False
                asked.append(row[1])
            elif row[0] != "whole" or row[1] not in texts or row[2] != texts[row[1]]:
                return False
        return paper[0][-1] == ("whole", paper[1], None)

    def test_wrong_kinds(self):
        reader = Reader(*PARTS)
        text = show_reader(reader)
        last = ("whole", text, None)
        for paper in NO_TEXTS + ("", [[last], text], ([last],), ([last], text, None), ((last,), text), ([list(last)], text),
                                 ([last], None), ([last], 7), ([None], text), ([last, None], text), (None, text), ({}, text),
                                 ([("whole", text)], text), ([("whole", text, None, None)], text), ([(last,)], text)):
            self.assertIs(is_lesson(reader, paper), False, paper)
