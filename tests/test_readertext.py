"""Tests of lagbound.readertext: points [7], [12] and [54]."""

from lagbound.errors import BadLine
from lagbound.machinetext import read_machine
from lagbound.readers import Reader
from lagbound.readertext import read_reader, show_reader
from lagbound.rests import build
from reader_samples import random_reader, reader_parts
from support import Case, seeded

HEAD = "reader ab xy 3 -"
TEXT = """reader ab xy 3 xy
move 0 a - 1
move 0 b xx 0
move 1 b y 2
final 0 -
final 2 yx"""
PARTS = ("ab", "xy", "xy", [[("", 1), ("xx", 0)], [None, ("y", 2)], [None, None]], ["", None, "yx"])


class Showing(Case):
    """Point [54]."""

    def test_text(self):
        self.same(show_reader(Reader(*PARTS)), TEXT)

    def test_example(self):
        text = "machine ab xy 4\nbegin 0 -\narc 0 a x 1\narc 0 a y 2\narc 1 b - 3\narc 2 a - 3\nend 3 -"
        shown = "reader ab xy 3 -\nmove 0 a - 1\nmove 1 a y 2\nmove 1 b x 2\nfinal 2 -"
        self.same(show_reader(build(read_machine(text))), shown)

    def test_without_entries(self):
        self.same(show_reader(Reader("abcd", "z", "", [[None] * 4], [None])), "reader abcd z 1 -")
        self.same(show_reader(Reader("a", "x", "x", [[None]] * 64, [None] * 64)), "reader a x 64 x")

    def test_lines_are_ordered_by_numbers(self):
        reader = Reader("ab", "x", "", [[("", 11), ("x", 10)]] * 12, ["x"] * 12)
        lines = show_reader(reader).split("\n")
        self.same(lines[1:4], ["move 0 a - 11", "move 0 b x 10", "move 1 a - 11"])
        self.same(lines[19:23], ["move 9 a - 11", "move 9 b x 10", "move 10 a - 11", "move 10 b x 10"])
        self.same(lines[25:], [f"final {state} x" for state in range(12)])


class Reading(Case):
    """Point [54]: right texts."""

    def test_back_and_forth(self):
        source = seeded(201)
        for _ in range(100):
            reader = random_reader(source, read=source.choice(("a", "ab", "abc")), most=12)
            text = show_reader(reader)
            self.same(reader_parts(read_reader(text)), reader_parts(reader))
            self.same(show_reader(read_reader(text)), text)

    def test_any_order(self):
        source = seeded(202)
        head, *lines = TEXT.split("\n")
        for _ in range(30):
            source.shuffle(lines)
            self.same(reader_parts(read_reader("\n".join([head] + lines))), PARTS)

    def test_no_number_of_lines_is_wrong_by_itself(self):
        lines = [f"move {state} {letter} xyz {63 - state}" for state in range(64) for letter in "abcd"]
        lines += [f"final {state} {'z' * 400}" for state in range(64)]
        text = "\n".join(["reader abcd xyz 64 " + "x" * 400] + lines)
        self.same(show_reader(read_reader(text)), text)

    def test_sizes(self):
        for size in (1, 2, 9, 10, 63, 64):
            self.same(len(read_reader(f"reader a x {size} -")), size)
        self.same(reader_parts(read_reader("reader a x 1 -")), ("a", "x", "", [[None]], [None]))

    def test_the_same_again(self):
        self.same(reader_parts(read_reader(TEXT)), reader_parts(read_reader(TEXT)))
        reader = read_reader(TEXT)
        for row in reader.moves:
            row.clear()
        reader.finals.clear()
        self.same(show_reader(reader), TEXT)


class WrongTexts(Case):
    """Point [54]: the first wrong line with its first wrong place."""

    def wrong(self, text, line, place):
        self.fails(BadLine, {"line": line, "place": place}, read_reader, text)

    def test_first_line(self):
        for text, place in (
            ("", 1), (" ", 1), ("Reader ab xy 2 -", 1), ("machine ab xy 2", 1), (" reader ab xy 2 -", 1), ("move 0 a - 0", 1),
            ("reade ab xy 9 9 9", 1), ("reader", 2), ("reader ", 2), ("reader  ab xy 2 -", 2), ("reader ba xy 2 -", 2),
            ("reader abcde xy 2 -", 2), ("reader - xy 2 -", 2), ("reader ab", 3), ("reader ab ", 3), ("reader ab yx 2 -", 3),
            ("reader ab  xy 2 -", 3), ("reader ab 2 -", 3), ("reader ab xy", 4), ("reader ab xy ", 4), ("reader ab xy 0 -", 4),
            ("reader ab xy 65 -", 4), ("reader ab xy 01 -", 4), ("reader ab xy 00 -", 4), ("reader ab xy -1 -", 4),
            ("reader ab xy +1 -", 4), ("reader ab xy - 1", 4), ("reader ab xy 1x -", 4), ("reader ab xy  2 -", 4),
            ("reader ab xy 2", 5), ("reader ab xy 2 ", 5), ("reader ab xy 2  -", 5), ("reader ab xy 2 a", 5),
            ("reader ab xy 2 z", 5), ("reader ab xy 2 x-", 5), ("reader ab xy 2 --", 5), ("reader ab xy 2 " + "x" * 401, 5),
            ("reader ab xy 2 0 0", 5), ("reader ab xy 2 - ", 6), ("reader ab xy 2 x 0", 6), ("reader ab xy 2 - - -", 6),
            ("reader ab xy 65 z 0", 4), ("reader ab yx 65 z", 3), ("reader ba yx 65 z 0", 2),
        ):
            self.wrong(text, 1, place)
            self.wrong(text + "\nmove 9 9 9", 1, place)

    def test_first_line_is_first(self):
        self.wrong("\n" + HEAD, 1, 1)
        self.wrong("final 0 -\n" + HEAD, 1, 1)

    def test_place_1(self):
        for row in ("", " ", "  ", HEAD, "begin 0 -", "arc 0 a - 0", "end 0 -", "Move 0 a - 0", " move 0 a - 0", "moves 0 a - 0",
                    "finals 0 -", "final\t0 -", "-"):
            self.wrong(HEAD + "\n" + row, 2, 1)
            self.wrong(f"{HEAD}\nmove 0 a - 0\nfinal 1 x\n{row}\nmove 7", 4, 1)
        self.wrong(HEAD + "\n", 2, 1)
        self.wrong(HEAD + "\nfinal 0 -\n\nfinal 1 -", 3, 1)
        self.wrong(HEAD + "\nfinal 0 -\n", 3, 1)

    def test_moves(self):
        for rest, place in (
            ("", 2), (" ", 2), ("  0 a x 0", 2), (" 3 a x 0", 2), (" a 0 x 0", 2), (" 00 a x 0", 2), (" 0", 3), (" 0 ", 3),
            (" 0  a x 0", 3), (" 0 c x 0", 3), (" 0 ab x 0", 3), (" 0 - x 0", 3), (" 0 x x 0", 3), (" 0 a", 4), (" 0 a ", 4),
            (" 0 a  x 0", 4), (" 0 a z 0", 4), (" 0 a 0", 4), (" 0 a " + "x" * 401 + " 0", 4), (" 0 a x", 5), (" 0 a x ", 5),
            (" 0 a x  0", 5), (" 0 a x 3", 5), (" 0 a x 00", 5), (" 0 a x -", 5), (" 0 a x 0 ", 6), (" 0 a x 0 0", 6),
            (" 0 a x 0 0 0", 6), (" 3 c z 3 0", 2), (" 0 c z 3 0", 3), (" 0 a z 3 0", 4), (" 0 a x 3 0", 5),
        ):
            self.wrong(f"{HEAD}\nmove 1 a y 0\nmove{rest}\nfinal 7", 3, place)

    def test_finals(self):
        for rest, place in (
            ("", 2), (" ", 2), ("  x", 2), (" 3 x", 2), (" -1 x", 2), (" 00 x", 2), (" x 0", 2), (" 3", 2), (" 3 z 0", 2), (" 0", 3),
            (" 0 ", 3), (" 0  x", 3), (" 0 z", 3), (" 0 a", 3), (" 0 --", 3), (" 0 " + "x" * 401, 3), (" 0 z 0", 3), (" 0 x ", 4),
            (" 0 x 0", 4), (" 0 - -", 4), (" 0 x 0 0", 4),
        ):
            self.wrong(f"{HEAD}\nfinal 1 y\nfinal{rest}\nmove 7", 3, place)

    def test_repeated_moves(self):
        # Source and letter tell that the line is repeated, whatever stands behind them, even nothing.
        for rest in (" - 1", " x 2", "", " ", " -", " - ", " z 1", " - 9", " - 1 1", " 9 9 9 9", "  ", " - 1 "):
            self.wrong(f"{HEAD}\nmove 0 a - 1\nmove 1 a - 1\nmove 0 a{rest}\nfinal 7", 4, 3)
        self.wrong(f"{HEAD}\nmove 0 a - 1\nmove 0 c", 3, 3)
        self.wrong(f"{HEAD}\nmove 0 a - 1\nmove 3 a", 3, 2)
        self.wrong(f"{HEAD}\nmove 0 a - 1\nmove 0", 3, 3)
        self.wrong(f"{HEAD}\nmove 0 a - 1\nmove 0 b z 1", 3, 4)
        self.same(read_reader(f"{HEAD}\nmove 0 a - 1\nmove 0 b - 1\nmove 1 a - 1").moves, [
            [("", 1), ("", 1)], [("", 1), None], [None, None]])

    def test_repeated_finals(self):
        for rest in (" -", " x", "", " ", " z", " - -", " 9 9", "  "):
            self.wrong(f"{HEAD}\nfinal 1 -\nfinal 0 x\nmove 0 a - 0\nfinal 1{rest}\nmove 7", 5, 2)
        self.wrong(f"{HEAD}\nfinal 1 -\nfinal 3", 3, 2)
        self.wrong(f"{HEAD}\nfinal 1 -\nfinal 2", 3, 3)

    def test_wrong_lines_in_order(self):
        self.wrong(f"{HEAD}\nfinal 0 z\nmove 9 a - 0\nfinal", 2, 3)
        self.wrong(f"{HEAD}\nmove 0 a - 0\nmove 9 a - 0\nfinal", 3, 2)

    def test_long_numerals(self):
        for numeral in ("1" + "0" * 5000, "9" * 5000, "0" * 5000, "0" * 4999 + "1", "65", "100", "1" * 60):
            self.wrong(f"reader ab xy {numeral} -", 1, 4)
            self.wrong(f"{HEAD}\nmove {numeral} a x 0", 2, 2)
            self.wrong(f"{HEAD}\nmove 0 a x {numeral}", 2, 5)
            self.wrong(f"{HEAD}\nfinal {numeral} -", 2, 2)

    def test_letters_of_the_other_alphabet(self):
        self.wrong("reader ab xy 1 a", 1, 5)
        self.wrong("reader ab xy 1 -\nfinal 0 a", 2, 3)
        self.wrong("reader ab xy 1 -\nmove 0 x x 0", 2, 3)
        self.wrong("reader ab xy 1 -\nmove 0 a a 0", 2, 4)
