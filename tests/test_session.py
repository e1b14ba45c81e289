"""Tests of lagbound.session: points [4] to [6] and [65]."""

from lagbound.errors import BadWord, Closed, NoMove, NotFinal, NothingToUndo
from lagbound.readers import Reader, empty_reader
from lagbound.session import Session
from reader_samples import random_reader, reader_parts, walk
from support import NO_TEXTS, Case, seeded

PARTS = ("ab", "xy", "yy", [[("x", 1), None], [("", 0), ("xy", 2)], [None, None]], [None, "yxy", ""])


def told(session):
    """All that the properties, the length and the iteration tell."""
    return (session.state, session.taken, session.written, session.held, session.closed, len(session), list(session))


class Plain:
    """A session straight from point [65]: it keeps what was done, and runs the reader again for each answer."""

    def __init__(self, reader):
        self.reader, self.word, self.closed = reader, "", False

    def told(self):
        written, state = walk(self.reader, self.word)
        last = self.reader.finals[state]
        rows = [(letter, self.reader.moves[walk(self.reader, self.word[:at])[1]][self.reader.read.index(letter)][0])
                for at, letter in enumerate(self.word)]
        held = 0 if self.closed else None if last is None else len(last)
        return (state, self.word, self.reader.first + written + (last if self.closed else ""), held, self.closed,
                len(self.word), rows)

    def push(self, letter):
        if self.closed:
            return Closed
        before, after = walk(self.reader, self.word)[0], walk(self.reader, self.word + letter)
        if after is None:
            return NoMove
        self.word += letter
        return after[0][len(before):]

    def close(self):
        last = self.reader.finals[walk(self.reader, self.word)[1]]
        if self.closed or last is None:
            return Closed if self.closed else NotFinal
        self.closed = True
        return last

    def back(self):
        if self.closed:
            self.closed = False
            return ""
        if not self.word:
            return NothingToUndo
        letter, self.word = self.word[-1], self.word[:-1]
        return letter


class Sessions(Case):
    def test_at_the_start(self):
        self.same(told(Session(Reader(*PARTS))), (0, "", "yy", None, False, 0, []))
        self.same(told(Session(empty_reader("a", "x"))), (0, "", "", None, False, 0, []))
        self.same(told(Session(Reader("a", "x", "", [[None]], ["xx"]))), (0, "", "", 2, False, 0, []))

    def test_a_whole_run(self):
        session = Session(Reader(*PARTS))
        self.same([session.push(letter) for letter in "aaa"], ["x", "", "x"])
        self.same(told(session), (1, "aaa", "yyxx", 3, False, 3, [("a", "x"), ("a", ""), ("a", "x")]))
        self.same(session.close(), "yxy")
        self.same(told(session), (1, "aaa", "yyxxyxy", 0, True, 3, [("a", "x"), ("a", ""), ("a", "x")]))
        self.same(session.back(), "")
        self.same(told(session), (1, "aaa", "yyxx", 3, False, 3, [("a", "x"), ("a", ""), ("a", "x")]))
        self.same(session.push("b"), "xy")
        self.same(session.close(), "")
        self.same(told(session), (2, "aaab", "yyxxxy", 0, True, 4, [("a", "x"), ("a", ""), ("a", "x"), ("b", "xy")]))
        self.same([session.back() for _ in range(5)], ["", "b", "a", "a", "a"])
        self.same(told(session), (0, "", "yy", None, False, 0, []))

    def test_random_runs(self):
        source = seeded(251)
        errors = {}
        for _ in range(150):
            reader = random_reader(source)
            session, plain = Session(reader), Plain(reader)
            for _ in range(40):
                name = source.choice(("push", "push", "push", "close", "back"))
                args = (source.choice("ab"),) if name == "push" else ()
                expected = getattr(plain, name)(*args)
                if isinstance(expected, str):
                    self.same(getattr(session, name)(*args), expected)
                else:
                    letter = {"letter": args[0]} if expected is NoMove else {}
                    self.fails(expected, letter, getattr(session, name), *args)
                    errors[expected] = errors.get(expected, 0) + 1
                self.same(told(session), plain.told())
        self.assertEqual(set(errors), {Closed, NoMove, NotFinal, NothingToUndo})
        self.assertGreater(min(errors.values()), 50)

    def test_words_of_any_length(self):
        session = Session(Reader("a", "xy", "x", [[("y" * 400, 0)]], ["x"]))
        for _ in range(5000):
            session.push("a")
        self.same((session.taken, len(session), len(list(session))), ("a" * 5000, 5000, 5000))
        self.same(session.written, "x" + "y" * 2000000)
        session.close()
        self.same(session.written, "x" + "y" * 2000000 + "x")
        self.same([session.back() for _ in range(5001)], [""] + ["a"] * 5000)
        self.fails(NothingToUndo, {}, session.back)

    def test_the_order_of_the_errors(self):
        open_one, closed = Session(Reader(*PARTS)), Session(Reader(*PARTS))
        closed.push("a")
        closed.close()
        for session in (open_one, closed):
            before = told(session)
            for value in NO_TEXTS + ("", "aa", "ab", "c", "x", "A", "-", "a ", "\n"):
                self.fails_with(BadWord, value, session.push, value)
            self.same(told(session), before)
        self.fails(NoMove, {"letter": "b"}, open_one.push, "b")
        self.fails(NotFinal, {}, open_one.close)
        self.fails(NothingToUndo, {}, open_one.back)
        self.same(told(open_one), (0, "", "yy", None, False, 0, []))
        # State 1 has a move for both letters and a final word; state 2 has neither a move nor a second close.
        for letter in "ab":
            self.fails(Closed, {}, closed.push, letter)
        self.fails(Closed, {}, closed.close)
        last = Session(Reader("a", "x", "", [[None]], [""]))
        last.close()
        self.fails(Closed, {}, last.push, "a")
        self.fails(Closed, {}, last.close)
        self.same(last.back(), "")
        self.fails(NoMove, {"letter": "a"}, last.push, "a")
        self.fails(NothingToUndo, {}, last.back)

    def test_sessions_do_not_depend_on_each_other(self):
        reader = Reader(*PARTS)
        first, second = Session(reader), Session(reader)
        first.push("a")
        self.same((len(first), len(second)), (1, 0))
        third = first.twin()
        self.same(told(third), told(first))
        third.push("b")
        third.close()
        self.same(told(first), (1, "a", "yyx", 3, False, 1, [("a", "x")]))
        fourth = third.twin()
        self.same(told(fourth), told(third))
        self.same([fourth.back(), fourth.back(), fourth.back()], ["", "b", "a"])
        self.same(told(third)[4:6], (True, 2))
        self.same(reader_parts(reader), PARTS)

    def test_returned_lists(self):
        session = Session(Reader(*PARTS))
        session.push("a")
        rows = list(session)
        rows.append(("b", "xy"))
        self.same((len(session), list(session)), (1, [("a", "x")]))
        self.same(told(session), told(session))
