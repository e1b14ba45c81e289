"""Tests of lagbound.book: points [3] to [8] and [80] to [85]."""

from lagbound.alike import reader_parting
from lagbound.behind import behind
from lagbound.book import Book, audit, compare, replay
from lagbound.errors import BadCommand, LagError, NameTaken, NameUnknown, NothingToUndo, TooLarge
from lagbound.least import least
from lagbound.machinetext import show_machine
from lagbound.readers import reader_machine
from lagbound.readertext import read_reader, show_reader
from lagbound.rests import build, fate, is_fate
from lagbound.rules import Rules, rewrite, rule_reader
from lagbound.shaping import trim, turn, unite
from lagbound.telling import told_words
from machine_samples import random_machine, variants
from pair_samples import lockstep_machine
from reader_samples import disguised, full_reader, random_reader, told_by
from support import NO_TEXTS, Case, seeded, words_up_to
from test_growth import FORK
from test_rests import EXAMPLE, TWO
from test_square import fan, loops

ROWS = {"what": "rows", "limit": 200}
ONE = "machine one a x 1 ; begin 0 - ; arc 0 a x 0 ; end 0 -"


def packed(text):
    """The text of a machine or a reader as it stands in a command."""
    return " ; ".join(text.split("\n")).split(" ", 1)[1]


def shown(word):
    return "*" if word is None else word or "-"


def state_of(book):
    """All that a book tells."""
    return len(book), list(book), book.names, [book.show(name) for name in book.names]


def full_book():
    """A book with items of all kinds: m (ab to xy), n (xy to xy), r, q, u, s, t, p and w."""
    book = Book()
    for line in (
        "machine m " + packed(EXAMPLE),
        "machine n xy xy 1 ; begin 0 - ; arc 0 x x 0 ; arc 0 y yy 0 ; end 0 -",
        "build r m",
        "reader q ab xy 2 x ; move 0 a y 1 ; move 1 b - 1 ; final 1 -",
        "rules u ab ab b",
        "open s r",
        "open t q",
        "paper p m",
        "machine w " + packed(show_machine(TWO)),
    ):
        assert not book.run(line).startswith("refused")
    return book


class Commands(Case):
    """Points [80] and [81]."""

    def test_the_example(self):
        book = Book()
        answer = book.run("machine m a x 1 ; begin 0 - ; arc 0 a x 0 ; end 0 -")
        self.same([answer, book.run("tell m aa"), len(book)], ["machine 1", "xx", 2])

    def test_machines_and_readers(self):
        source = seeded(301)
        for at in range(60):
            machine, reader = random_machine(source), random_reader(source)
            book = Book()
            self.same(book.run("machine m " + packed(show_machine(machine))), f"machine {machine.size}")
            self.same(book.run("reader r " + packed(show_reader(reader))), f"reader {len(reader)}")
            self.same((book.show("m"), book.show("r")), (show_machine(machine), show_reader(reader)))
            self.same((book.run("trim t m"), book.show("t")), (f"machine {trim(machine).size}", show_machine(trim(machine))))
            self.same((book.run("turn u m"), book.show("u")), (f"machine {machine.size}", show_machine(turn(machine))))
            other = unite(machine, reader_machine(reader))
            book.run("machine other " + packed(show_machine(reader_machine(reader))))
            self.same((book.run("unite v m other"), book.show("v")), (f"machine {other.size}", show_machine(other)))
            form = least(reader)
            self.same((book.run("least l r"), book.show("l")), (f"reader {len(form)}", show_reader(form)))
            for word in words_up_to("ab", 3):
                words, more = told_words(machine, word, most=5)
                answer = " ".join([shown(row) for row in words] + ["+"] * more) if words else "*"
                self.same(book.run(f"tell m {shown(word)}"), answer)
                self.same(book.run(f"tell r {shown(word)}"), shown(told_by(reader, word)))

    def test_text_in_any_order(self):
        book = Book()
        self.same(book.run("machine m ab x 1 ; end 0 - ; arc 0 b x 0 ; begin 0 - ; end 0 -"), "machine 1")
        self.same(book.show("m"), "machine ab x 1\nbegin 0 -\narc 0 b x 0\nend 0 -")
        self.same(book.run("reader r ab x 2 - ; final 1 x ; move 0 b x 1"), "reader 2")
        self.same(book.show("r"), "reader ab x 2 -\nmove 0 b x 1\nfinal 1 x")
        self.same(book.run("machine none abcd x 0"), "machine 0")
        self.same(book.run("reader empty abcd x 1 -"), "reader 1")

    def test_behind_and_build(self):
        source = seeded(302)
        built = 0
        for _ in range(60):
            machine = lockstep_machine(source, most=3)
            second = random_machine(source, read="xy", most=2)
            book = Book()
            book.run("machine m " + packed(show_machine(machine)))
            book.run("machine n " + packed(show_machine(second)))
            result = behind(machine, second)
            self.same((book.run("behind c m n"), book.show("c")), (f"machine {result.size}", show_machine(result)))
            told = fate(machine)
            self.same((book.run("paper p m"), book.show("p")), (told[0], f"{told[0]}\n{show_machine(machine)}"))
            answer = book.run("build r m")
            self.same(answer, {"two": "refused TwoWords", "growing": "refused Growing"}.get(told[0], f"reader {len(told[1])}"))
            if told[0] == "reader":
                self.same(book.show("r"), show_reader(build(machine)))
                built += 1
            else:
                self.same(book.names, ["c", "m", "n", "p"])
        self.assertGreater(built, 15)

    def test_judge(self):
        source = seeded(303)
        machines = [lockstep_machine(source, most=3) for _ in range(25)] + [FORK, TWO]
        found = {"right": 0, "wrong": 0}
        book = Book()
        for at, machine in enumerate(machines):
            book.run(f"machine m{at} " + packed(show_machine(machine)))
            book.run(f"paper p{at} m{at}")
        for machine in machines[:12] + machines[-2:]:
            at = machines.index(machine)
            for place, other in enumerate(machines):
                fresh = book.twin()
                answer = fresh.run(f"judge p{at} m{place}")
                self.same(answer, "right" if is_fate(other, fate(machine)) else "wrong")
                found[answer] += 1
                self.assertTrue(at != place or answer == "right")
        self.assertGreater(min(found.values()), 14)

    def test_part(self):
        source = seeded(304)
        alike = 0
        for at in range(60):
            first = full_reader(source)
            second = disguised(source, first) if at % 3 == 0 else full_reader(source)
            book = Book()
            book.run("reader r " + packed(show_reader(first)))
            book.run("reader q " + packed(show_reader(second)))
            paper = reader_parting(first, second)
            self.same(book.run("part r q"), "alike" if paper is None else " ".join(map(shown, paper)))
            self.same(book.run("part q q"), "alike")
            alike += paper is None
        self.assertGreater(alike, 15)
        book = Book()
        book.run("reader r a x 1 - ; final 0 -")
        book.run("reader e a x 1 x")
        self.same([book.run("part r e"), book.run("part e r")], ["- - *", "- * -"])

    def test_rules(self):
        book = Book()
        self.same(book.run("rules u ab aba a b - ab b"), "rules 3")
        self.same(book.show("u"), "rules ab b - ab b aba a")
        rules = Rules("ab", [("ab", "b"), ("aba", "a"), ("b", "")])
        for word in words_up_to("ab", 5):
            self.same(book.run(f"tell u {shown(word)}"), shown(rewrite(rules, word)))
        self.same((book.run("rewriter r u"), book.show("r")), (f"reader {len(rule_reader(rules))}", show_reader(rule_reader(rules))))
        self.same((book.run("rules none abc"), book.show("none"), book.run("tell none abc")), ("rules 0", "rules abc", "abc"))
        self.same(book.run("tell u " + "a" * 4000), "a" * 4000)

    def test_told_words(self):
        lines = ["machine many a x 1 ; begin 0 - ; end 0 -" + "".join(f" ; arc 0 a {'x' * size} 0" for size in range(1, count + 1))
                 for count in (4, 5, 6)]
        for line, answer in zip(lines, ("x xx xxx xxxx", "x xx xxx xxxx xxxxx", "x xx xxx xxxx xxxxx +")):
            book = Book()
            book.run(line)
            self.same([book.run("tell many a"), book.run("tell many -")], [answer, "-"])
        book = Book()
        book.run("machine m ab x 1 ; begin 0 - ; begin 0 x ; arc 0 a - 0 ; end 0 -")
        self.same([book.run("tell m -"), book.run("tell m b"), book.run("tell m " + "a" * 4000)], ["- x", "*", "- x"])

    def test_sessions(self):
        book = full_book()
        self.same(book.show("s"), "session 0 - -")
        self.same(book.show("t"), "session 0 - x")
        self.same([book.run("push s a"), book.run("push s a"), book.run("close s")], ["-", "y", "-"])
        self.same(book.show("s"), "session 2 aa y closed")
        self.same([book.run("push t a"), book.run("push t b")], ["y", "-"])
        self.same(book.show("t"), "session 1 ab xy")
        self.same([book.run("open v q"), book.run("open x r")], ["session x", "session -"])
        self.same((book.show("v"), book.show("t")), ("session 0 - x", "session 1 ab xy"))
        self.same([book.run("drop q"), book.run("push t b"), book.run("close t"), book.show("t")],
                  ["dropped", "-", "-", "session 1 abb xy closed"])

    def test_drop(self):
        book = full_book()
        names = book.names
        for name in list(names):
            self.same(book.run("drop " + name), "dropped")
            names.remove(name)
            self.same(book.names, names)
            self.fails(NameUnknown, {"name": name}, book.show, name)
            self.fails(NameUnknown, {"name": name}, book.run, "drop " + name)
        self.same(book.run("machine m a x 0"), "machine 0")

    def test_items_do_not_depend_on_what_they_were_made_from(self):
        book = full_book()
        before = {name: book.show(name) for name in book.names}
        book.run("drop m")
        self.same([book.show(name) for name in ("r", "p", "s")], [before[name] for name in ("r", "p", "s")])
        self.same(book.run("machine m a x 0"), "machine 0")
        self.same([book.show("p"), book.run("push s a")], [before["p"], "-"])

    def test_names_and_rows(self):
        book = Book()
        self.same((book.names, len(book), list(book)), ([], 0, []))
        names = ["z", "a1", "a", "b0", "abcdefghijkl", "a10", "a9"]
        for name in names:
            book.run(f"machine {name} a x 0")
        self.same(book.names, sorted(names))
        self.same(list(book), [(f"machine {name} a x 0", "machine 0") for name in names])
        self.fresh(lambda: book.names)
        rows = list(book)
        rows.clear()
        self.same((len(book), len(list(book))), (7, 7))


class WrongLines(Case):
    """Point [82]."""

    def wrong(self, book, line, place):
        before = state_of(book)
        self.fails(BadCommand, {"place": place}, book.run, line)
        self.same(state_of(book), before)

    def unknown(self, book, line, name):
        self.fails(NameUnknown, {"name": name}, book.run, line)

    def taken(self, book, line, name):
        self.fails(NameTaken, {"name": name}, book.run, line)

    def test_no_line(self):
        for book in (Book(), full_book()):
            for value in NO_TEXTS + ("machine m a x 0\n", "\n", "tell m a\nb", "drop\nm"):
                self.wrong(book, value, 1)

    def test_place_1(self):
        for book in (Book(), full_book()):
            for line in ("", " ", "  machine", "Machine v a x 0", " machine v a x 0", "machines v", "tell\tm a", "-", "undo", "show m",
                         "machin", "m", "run"):
                self.wrong(book, line, 1)

    def test_places_of_new(self):
        book = full_book()
        for command, rest in (("machine", " a x 0"), ("reader", " a x 1 -"), ("rules", " ab"), ("trim", " m"), ("turn", " m"),
                              ("unite", " m m"), ("behind", " m n"), ("build", " m"), ("least", " r"), ("rewriter", " u"),
                              ("paper", " m"), ("open", " r")):
            self.wrong(book, command, 2)
            for name in ("", "A", "1a", "a-", "abcdefghijklm", "-", "aB", "a_", "*", "~"):
                self.wrong(book, f"{command} {name}{rest}", 2)
                self.wrong(book, f"{command} {name}", 2)
                self.wrong(book, f"{command} {name} 9 9 9 9", 2)
            for name in book.names:
                self.taken(book, f"{command} {name}{rest}", name)
                self.taken(book, f"{command} {name} 9 9 9 9", name)
            self.same(book.run(f"{command} abcdefghijkl{rest}").startswith("refused"), False)
            book.undo()

    def test_missing_and_additional_words(self):
        book = full_book()
        for words in ("trim v m", "turn v m", "unite v m m", "behind v m n", "build v m", "least v r", "rewriter v u", "paper v m",
                      "judge p m", "tell m a", "part r q", "open v r", "push s a", "close s", "drop w"):
            parts = words.split(" ")
            for size in range(1, len(parts)):
                self.wrong(book, " ".join(parts[:size]), size + 1)
            for more in (" ", " a", " m", "  ", " a b c"):
                self.wrong(book, words + more, len(parts) + 1)

    def test_items_of_the_wrong_kind(self):
        kinds = {"machine": "mnw", "reader": "rq", "rules": "u", "session": "st", "paper": "p"}
        forms = [
            ("trim v {} 9", 3, "machine"), ("turn v {} 9", 3, "machine"), ("unite v {} 9", 3, "machine"), ("unite v m {} 9", 4, "machine"),
            ("behind v {} 9", 3, "machine"), ("behind v m {} 9", 4, "machine"), ("build v {} 9", 3, "machine"), ("least v {} 9", 3, "reader"),
            ("rewriter v {} 9", 3, "rules"), ("paper v {} 9", 3, "machine"), ("judge {} 9", 2, "paper"), ("judge p {} 9", 3, "machine"),
            ("tell {} 9", 2, "machine reader rules"), ("part {} 9", 2, "reader"), ("part r {} 9", 3, "reader"), ("open v {} 9", 3, "reader"),
            ("push {} 9", 2, "session"), ("close {} 9", 2, "session"), ("drop {} 9", 2, "machine reader rules session paper"),
        ]
        book = full_book()
        for form, place, good in forms:
            for kind, names in kinds.items():
                for name in names:
                    line = form.format(name)
                    if kind not in good.split(" "):
                        self.wrong(book, line, place)
                        self.wrong(book, line[:-2], place)
                    else:
                        with self.assertRaises(LagError) as caught:
                            book.run(line)
                        self.assertGreater(getattr(caught.exception, "place", place + 1), place)
            for name in ("", "x", "zz", "A", "-", "a-b", "abcdefghijklm", "*", "9", "M", "mm"):
                self.unknown(book, form.format(name), name)
                self.unknown(book, form.format(name)[:-2], name)

    def test_a_new_name_is_no_item_yet(self):
        book = full_book()
        for command in ("trim", "turn", "unite", "behind", "build", "least", "rewriter", "paper", "open"):
            self.unknown(book, f"{command} v v v", "v")
        self.unknown(book, "unite v m v", "v")

    def test_words(self):
        book = full_book()
        for item in ("m", "r", "q", "u", "w"):
            for word in ("", "c", "x", "--", "a-", "A", "a" * 4001, " ", "*"):
                self.wrong(book, f"tell {item} {word}", 3)
                self.wrong(book, f"tell {item} {word} 9", 3)
            book.run(f"tell {item} {'a' * 4000}")
        self.wrong(book, "tell n a", 3)
        self.same(book.run("tell n xy"), "xyy")

    def test_letters(self):
        book = full_book()
        book.run("push s a")
        book.run("push s a")
        book.run("close s")
        for session in "st":
            for letter in ("", "c", "x", "-", "aa", "ab", "A", "ab "):
                self.wrong(book, f"push {session} {letter}", 3)
                self.wrong(book, f"push {session} {letter} 9", 3)
        self.same(book.run("push s a"), "refused Closed")

    def test_texts(self):
        book = full_book()
        for command, head in (("machine", "ab xy 2"), ("reader", "ab xy 2 -")):
            for text in (None, "", " ", "ba xy 2", head + " 9", head + " ;", head + " ; ", head + ";", head + " ;begin 0 -",
                         head + " ; begin 9 -", head + " ; move 9 a - 0", head + "  ; end 0 -", head + " ; ; end 0 -",
                         head + " ;  ; end 0 -", " " + head, f"{command} {head}", head + " ; end 0 z", head + " ; final 0 z"):
                self.wrong(book, f"{command} v" + ("" if text is None else " " + text), 3)
            self.same(book.run(f"{command} v {head}"), f"{command} 2")
            book.undo()
        self.wrong(book, "machine v " + " ; ".join(["a x 1"] + ["begin 0 -"] * 401), 3)
        self.same(book.run("machine v " + " ; ".join(["a x 1"] + ["begin 0 -"] * 400)), "machine 1")
        self.wrong(book, "reader y a x 1 - ; final 0 - ; final 0 -", 3)

    def test_places_of_rules(self):
        book = full_book()
        self.wrong(book, "rules v", 3)
        for letters in ("", "ba", "abcde", "-", "aa", "A", "1"):
            self.wrong(book, f"rules v {letters}", 3)
            self.wrong(book, f"rules v {letters} a b c", 3)
        words = words_up_to("ab", 3)[1:]
        eight = " ".join(f"{word} -" for word in words[:8])
        for rest in ("", "a", "a ", "a b b", "a b  ", "- a", "a c", "c a", "a b c", "aaaaaaa a", "a bbbbbbbbb", "a b a b", "a b b a a a",
                     "a " + "b" * 5000, "-- a", "a -- ", "a *", eight + " bbb -", eight + " bbb", " a b", "a  b"):
            self.wrong(book, f"rules v ab {rest}", 4)
        self.same(book.run("rules v ab " + eight), "rules 8")
        self.same(book.run("rules x ab aaaaaa bbbbbbbb"), "rules 1")

    def test_earlier_places_come_first(self):
        book = full_book()
        self.wrong(book, "unite A zz zz", 2)
        self.taken(book, "unite m zz zz", "m")
        self.unknown(book, "unite v zz u", "zz")
        self.wrong(book, "unite v u zz", 3)
        self.wrong(book, "unite v m u zz", 4)
        self.unknown(book, "unite v m zz zz", "zz")
        self.unknown(book, "tell zz 9 9", "zz")
        self.wrong(book, "tell p 9 9", 2)
        self.wrong(book, "tell m 9 9", 3)

    def test_names_are_compared_with_what_is_filed_now(self):
        book = Book()
        book.run("machine m a x 0")
        book.run("drop m")
        self.unknown(book, "trim v m", "m")
        self.same(book.run("machine m a x 0"), "machine 0")
        book.undo()
        self.unknown(book, "trim v m", "m")


class Refused(Case):
    """Points [82] and [83]."""

    def test_each_refused_answer(self):
        book = full_book()
        book.run("machine fan " + packed(show_machine(fan(41))))
        book.run("machine fork " + packed(show_machine(FORK)))
        book.run("machine steps " + packed(show_machine(loops(64))))
        book.run("reader late a x 1 " + "x" * 200 + " ; final 0 " + "x" * 201)
        book.run("reader other a x 1 -")
        book.run("open full late")
        book.run("close full")
        book.run("machine big a x 40")
        before = {name: book.show(name) for name in book.names}
        for line, answer in (
            ("build v w", "TwoWords"), ("build v fork", "Growing"), ("build v fan", "TooLarge"), ("paper v fan", "TooLarge"),
            ("paper v steps", "TooLarge"), ("unite v m fork", "Mismatch"), ("unite v big big", "TooLarge"), ("behind v m m", "Mismatch"),
            ("least v late", "TooLarge"), ("part r other", "Mismatch"), ("push s b", "NoMove"), ("close s", "NotFinal"),
            ("push full a", "Closed"), ("close full", "Closed"), ("push t b", "NoMove"), ("close t", "NotFinal"),
        ):
            rows = len(book)
            self.same(book.run(line), "refused " + answer)
            self.same((len(book), list(book)[-1]), (rows + 1, (line, "refused " + answer)))
            self.same({name: book.show(name) for name in book.names}, before)
            self.same(book.undo(), line)
            self.same((len(book), {name: book.show(name) for name in book.names}), (rows, before))

    def test_200_and_201_rows(self):
        book = Book()
        book.run(ONE)
        for at in range(199):
            book.run("tell one " + "a" * at if at else "tell one -")
        self.same(len(book), 200)
        for line in ("tell one a", "machine m a x 0", "build r one", "drop one", "unite v one one"):
            self.fails(TooLarge, ROWS, book.run, line)
            self.same((len(book), book.names), (200, ["one"]))
        # A wrong place comes first.
        self.fails(BadCommand, {"place": 3}, book.run, "tell one b")
        self.fails(BadCommand, {"place": 1}, book.run, "")
        self.fails(NameTaken, {"name": "one"}, book.run, ONE)
        self.fails(NameUnknown, {"name": "m"}, book.run, "drop m")
        book.undo()
        self.same(book.run("drop one"), "dropped")
        self.same((len(book), book.names), (200, []))
        self.fails(TooLarge, ROWS, book.run, "machine m a x 0")
        book.undo()
        self.same((book.names, book.run("build r one")), (["one"], "reader 1"))
        # A refused line takes a row, too, and a full book refuses nothing.
        book.undo()
        book.run("machine two a x 1 ; begin 0 - ; begin 0 x ; end 0 -")
        self.fails(TooLarge, ROWS, book.run, "build q two")


def long_lines():
    """Lines that file, change and drop items of all kinds, with refused ones between them."""
    return ["machine m " + packed(EXAMPLE), "build r m", "open s r", "push s a", "push s b", "close s", "push s a", "machine w "
            + packed(show_machine(TWO)), "build x w", "paper p w", "rules u ab ab b", "rewriter v u", "least l v", "open t l", "push t a",
            "drop r", "push s b", "drop s", "open s l", "push s a", "judge p m", "tell m aa", "tell u abab", "part v l", "trim k m",
            "unite a m m", "unite z m w", "drop m", "turn m k", "drop p", "push t b", "close t", "reader r " + packed(show_reader(read_reader(
                "reader ab xy 1 x"))), "drop u", "drop a"]


class Undoing(Case):
    """Point [84]."""

    def test_row_by_row(self):
        book, states = Book(), [state_of(Book())]
        for line in long_lines():
            book.run(line)
            states.append(state_of(book))
        twin, again = book.twin(), replay([line for line, _ in book])
        for other in (twin, again, book):
            for at, line in reversed(list(enumerate(long_lines()))):
                self.same(state_of(other), states[at + 1])
                self.same(other.undo(), line)
            self.same(state_of(other), states[0])
            self.fails(NothingToUndo, {}, other.undo)
            self.same(state_of(other), states[0])

    def test_back_and_forth(self):
        source = seeded(305)
        book, lines, at = Book(), long_lines(), 0
        for _ in range(150):
            if at < len(lines) and (at == 0 or source.random() < 0.6):
                book.run(lines[at])
                at += 1
            else:
                at -= 1
                self.same(book.undo(), lines[at])
            self.same(state_of(book), state_of(replay(lines[:at])))

    def test_sessions_go_on_behind_an_undo(self):
        book = full_book()
        book.run("push s a")
        book.run("push s a")
        book.run("close s")
        book.undo()
        self.same(book.show("s"), "session 2 aa y")
        book.undo()
        self.same((book.show("s"), book.run("push s b"), book.show("s")), ("session 1 a -", "x", "session 2 ab x"))
        book.run("drop s")
        self.same((book.undo(), book.show("s")), ("drop s", "session 2 ab x"))

    def test_nothing_to_undo(self):
        self.fails(NothingToUndo, {}, Book().undo)

    def test_wrong_lines_leave_no_row(self):
        book = Book()
        book.run(ONE)
        for line in ("drop x", "machine one a x 0", "tell one b", ""):
            with self.assertRaises(LagError):
                book.run(line)
        self.same((book.undo(), len(book), book.names), (ONE, 0, []))


class Showing(Case):
    """Point [84]."""

    def test_each_kind(self):
        book = full_book()
        self.same(book.show("m"), EXAMPLE)
        self.same(book.show("p"), "reader\n" + EXAMPLE)
        self.same(book.show("u"), "rules ab ab b")
        self.same(book.show("q"), "reader ab xy 2 x\nmove 0 a y 1\nmove 1 b - 1\nfinal 1 -")
        book.run("paper pw w")
        book.run("machine fork " + packed(show_machine(FORK)))
        book.run("paper pf fork")
        self.same((book.show("pw"), book.show("pf")), ("two\n" + show_machine(TWO), "growing\n" + show_machine(FORK)))

    def test_unknown_names(self):
        for book in (Book(), full_book()):
            for name in NO_TEXTS + ("", "x", "zz", "A", "-", "m ", "m\n", "a" * 5000):
                self.fails(NameUnknown, {"name": name}, book.show, name)
                self.assertIs(self.fails(NameUnknown, {}, book.show, name).name, name)


class Several(Case):
    """Point [85]."""

    def test_twins(self):
        book = full_book()
        twin = book.twin()
        self.same(state_of(twin), state_of(book))
        self.same(compare(book, twin), [])
        before = state_of(book)
        twin.run("push s a")
        twin.run("drop m")
        twin.run("machine m a x 0")
        self.same(state_of(book), before)
        self.same(compare(book, twin), ["m", "s"])
        book.run("drop q")
        self.same((twin.show("q")[:6], compare(book, twin), compare(twin, book)), ("reader", ["m", "q", "s"], ["m", "q", "s"]))
        third = twin.twin()
        for _ in range(len(third)):
            third.undo()
        self.same((len(third), third.names, twin.names), (0, [], ["m", "n", "p", "q", "r", "s", "t", "u", "w"]))

    def test_twins_of_full_books(self):
        book = replay([ONE] + ["tell one a"] * 199)
        twin = book.twin()
        self.fails(TooLarge, ROWS, twin.run, "tell one a")
        twin.undo()
        twin.run("drop one")
        self.same((book.names, twin.names), (["one"], []))

    def test_replay(self):
        lines = long_lines()
        book = replay(lines)
        before = list(lines)
        self.same([line for line, _ in book], lines)
        self.same(lines, before)
        self.same(state_of(replay(lines)), state_of(book))
        self.same(state_of(replay([])), state_of(Book()))
        self.fails(BadCommand, {"place": 3}, replay, [ONE, "tell one b", None])
        self.fails(BadCommand, {"place": 1}, replay, [ONE, None, "tell one b"])
        self.fails(NameUnknown, {"name": "m"}, replay, ["trim v m"])
        self.fails(NameTaken, {"name": "one"}, replay, [ONE, ONE])
        self.fails(TooLarge, ROWS, replay, [ONE] + ["tell one a"] * 200)
        for value in NO_TEXTS:
            self.fails(BadCommand, {"place": 1}, replay, [value])

    def test_audit(self):
        rows = list(replay(long_lines()))
        self.assertIsNone(audit(rows))
        self.assertIsNone(audit([]))
        self.assertIsNone(audit(rows[:5]))
        for at, (line, answer) in enumerate(rows):
            for row in ((line, answer + " "), (line, ""), (line, None), [line, answer], (line,), (line, answer, None), None, line,
                        (None, answer), (1, 2), ("drop nothing", "dropped"), ("drop nothing", None), ("", ""), ("", None), (line + " ", answer), True, ((line,), answer)):
                self.same(audit(rows[:at] + [row] + rows[at + 1:]), at, row)
        self.same(audit([("drop x", "refused NameUnknown")]), 0)
        kept = [(ONE, "machine 1")] + [("tell one a", "x")] * 199
        self.assertIsNone(audit(kept))
        for row in (("tell one a", "x"), ("tell one a", "refused TooLarge"), None, ("", "")):
            self.same(audit(kept + [row]), 200)
        before = list(rows)
        audit(rows)
        self.same(rows, before)

    def test_audit_of_single_places(self):
        rows = list(full_book())[:3]
        for paper in variants(rows, (None, True, 0, "", "machine 1", [], (), ("drop m", "dropped"))):
            if isinstance(paper, list) and all(isinstance(row, (list, tuple, str, int, type(None))) for row in paper):
                expected = None
                book = Book()
                for at, row in enumerate(paper):
                    try:
                        right = type(row) is tuple and len(row) == 2 and all(type(word) is str for word in row) and book.run(
                            row[0]) == row[1]
                    except LagError:
                        right = False
                    if not right:
                        expected = at
                        break
                self.same(audit(paper), expected, paper)

    def test_compare(self):
        first, second = full_book(), Book()
        self.same(compare(first, second), first.names)
        self.same(compare(second, first), first.names)
        self.same(compare(second, Book()), [])
        second.run("machine r a x 0")
        second.run("machine z a x 0")
        second.run("machine m " + packed(EXAMPLE))
        self.same(compare(first, second), ["n", "p", "q", "r", "s", "t", "u", "w", "z"])
        # Sessions of unlike readers are equal if their shown texts are.
        third = Book()
        third.run("reader r ab xy 1 -")
        third.run("open s r")
        self.same("s" in compare(first, third), False)
        third.run("drop s")
        self.same("s" in compare(first, third), True)
        self.fresh(lambda: compare(first, third))
