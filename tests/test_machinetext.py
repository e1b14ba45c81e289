"""Tests of lagbound.machinetext: points [7], [12], [24] and [25]."""

from lagbound.errors import BadLine
from lagbound.machines import Machine
from lagbound.machinetext import read_machine, show_machine
from machine_samples import machine_for_judging, random_machine
from support import Case, seeded

HEAD = "machine ab xy 2"
TEXT = """machine ab xy 2
begin 0 -
begin 0 x
begin 1 y
arc 0 a - 0
arc 0 a x 1
arc 1 a y 1
arc 1 b xy 0
end 0 yy
end 1 -
end 1 x"""


class Showing(Case):
    """Point [24]."""

    def test_text(self):
        self.same(show_machine(machine_for_judging()), TEXT)

    def test_example(self):
        machine = read_machine("machine ab x 1\nend 0 -\narc 0 b x 0\nbegin 0 -\nend 0 -")
        self.same(show_machine(machine), "machine ab x 1\nbegin 0 -\narc 0 b x 0\nend 0 -")

    def test_without_entries(self):
        self.same(show_machine(Machine("abcd", "z", 0)), "machine abcd z 0")
        self.same(show_machine(Machine("a", "x", 64)), "machine a x 64")


class Reading(Case):
    """Point [25]: right texts."""

    def test_back_and_forth(self):
        source = seeded(61)
        for _ in range(100):
            machine = random_machine(source, most=12)
            text = show_machine(machine)
            again = read_machine(text)
            self.same(show_machine(again), text)
            self.same((again.read, again.write, again.size), (machine.read, machine.write, machine.size))
            self.same((again.begins, again.arcs, again.ends), (machine.begins, machine.arcs, machine.ends))

    def test_any_order_and_repeated(self):
        source = seeded(62)
        head, *lines = TEXT.split("\n")
        for _ in range(30):
            mixed = lines * 3
            source.shuffle(mixed)
            self.same(show_machine(read_machine("\n".join([head] + mixed))), TEXT)

    def test_400_lines_of_each_kind(self):
        lines = ["begin 0 -"] * 400 + ["arc 0 a - 0"] * 400 + ["end 0 -"] * 400
        seeded(63).shuffle(lines)
        text = "\n".join([HEAD] + lines)
        self.same(show_machine(read_machine(text)), HEAD + "\nbegin 0 -\narc 0 a - 0\nend 0 -")

    def test_words_of_400_letters(self):
        word = "xy" * 200
        text = f"{HEAD}\nbegin 0 {word}\narc 0 a {word} 1\nend 1 {word}"
        self.same(show_machine(read_machine(text)), text)

    def test_sizes(self):
        for size in (0, 1, 9, 10, 63, 64):
            self.same(read_machine(f"machine a x {size}").size, size)
        self.same(read_machine("machine a x 64\nbegin 63 -").begins, [(63, "")])


class WrongTexts(Case):
    """Point [25]: the first wrong line with its first wrong place."""

    def wrong(self, text, line, place):
        self.fails(BadLine, {"line": line, "place": place}, read_machine, text)

    def test_example(self):
        self.wrong("machine ab x 1\nbegin 0 -\narc 0 c x 1", 3, 3)

    def test_first_line(self):
        for text, place in (
            ("", 1), (" ", 1), ("Machine ab xy 2", 1), ("reader ab xy 2 -", 1), (" machine ab xy 2", 1), ("begin 0 -", 1),
            ("machin ab xy 2 9 9", 1), ("machine", 2), ("machine ", 2), ("machine  ab xy 2", 2), ("machine ba xy 2", 2),
            ("machine abcde xy 2", 2), ("machine - xy 2", 2), ("machine aA x 2", 2), ("machine ab", 3), ("machine ab ", 3),
            ("machine ab yx 2", 3), ("machine ab  xy 2", 3), ("machine ab 2", 3), ("machine ab xy", 4), ("machine ab xy ", 4),
            ("machine ab xy 65", 4), ("machine ab xy 02", 4), ("machine ab xy 00", 4), ("machine ab xy -1", 4),
            ("machine ab xy +1", 4), ("machine ab xy 1x", 4), ("machine ab xy 1_0", 4), ("machine ab xy  2", 4),
            ("machine ab xy 2.0", 4), ("machine ab xy 2 ", 5), ("machine ab xy 2 0", 5), ("machine ab xy 2 0 0", 5),
            ("machine ab xy 65 0", 4), ("machine ba yx 65", 2),
        ):
            self.wrong(text, 1, place)
            self.wrong(text + "\nbegin 9 9 9", 1, place)

    def test_first_line_is_first(self):
        self.wrong("\n" + HEAD, 1, 1)
        self.wrong("begin 0 -\n" + HEAD, 1, 1)

    def test_place_1(self):
        for row in ("", " ", "  ", "machine ab xy 2", "start 0 -", "Begin 0 -", " begin 0 -", "beginn 0 -", "begin\t0 -", "-"):
            self.wrong(HEAD + "\n" + row, 2, 1)
            self.wrong(f"{HEAD}\nbegin 0 -\nend 1 x\n{row}\nbegin 7", 4, 1)
        self.wrong(HEAD + "\n", 2, 1)
        self.wrong(HEAD + "\nbegin 0 -\n\nend 0 -", 3, 1)
        self.wrong(HEAD + "\nbegin 0 -\n", 3, 1)

    def test_begins_and_ends(self):
        for kind in ("begin", "end"):
            for rest, place in (
                ("", 2), (" ", 2), ("  x", 2), (" 2 x", 2), (" -1 x", 2), (" 00 x", 2), (" 01 x", 2), (" x 0", 2), (" 2", 2),
                (" 2 z 0", 2), (" 0", 3), (" 0 ", 3), (" 0  x", 3), (" 0 z", 3), (" 0 a", 3), (" 0 --", 3), (" 0 x-", 3),
                (" 0 " + "x" * 401, 3), (" 0 z 0", 3), (" 0 x ", 4), (" 0 x 0", 4), (" 0 - -", 4), (" 0 x 0 0", 4),
            ):
                self.wrong(f"{HEAD}\nbegin 1 y\n{kind}{rest}\nbegin 7", 3, place)

    def test_arcs(self):
        for rest, place in (
            ("", 2), (" ", 2), ("  0 a x 0", 2), (" 2 a x 0", 2), (" a 0 x 0", 2), (" 0", 3), (" 0 ", 3), (" 0  a x 0", 3),
            (" 0 c x 0", 3), (" 0 ab x 0", 3), (" 0 - x 0", 3), (" 0 x x 0", 3), (" 0 a", 4), (" 0 a ", 4), (" 0 a  x 0", 4),
            (" 0 a z 0", 4), (" 0 a 0", 4), (" 0 a " + "x" * 401 + " 0", 4), (" 0 a x", 5), (" 0 a x ", 5), (" 0 a x  0", 5),
            (" 0 a x 2", 5), (" 0 a x 00", 5), (" 0 a x -", 5), (" 0 a x 0 ", 6), (" 0 a x 0 0", 6), (" 0 a x 0 0 0", 6),
            (" 2 c z 2 0", 2), (" 0 c z 2 0", 3), (" 0 a z 2 0", 4), (" 0 a x 2 0", 5),
        ):
            self.wrong(f"{HEAD}\narc 1 a y 0\narc{rest}\nbegin 7", 3, place)

    def test_401st_line_of_a_kind(self):
        for kind, rest in (("begin", " 0 -"), ("arc", " 0 a - 0"), ("end", " 0 -")):
            right = [kind + rest] * 400
            others = [row for row in ("begin 1 y", "arc 1 b x 0", "end 1 y") if not row.startswith(kind)]
            for last in (kind + rest, kind, kind + " ", kind + " 9 9 9 9 9"):
                self.wrong("\n".join([HEAD] + right + [last]), 402, 1)
                self.wrong("\n".join([HEAD] + others + right + [last]), 404, 1)
            self.wrong("\n".join([HEAD] + right[1:] + [kind + " 9"]), 401, 2)

    def test_long_numerals(self):
        for numeral in ("1" + "0" * 5000, "9" * 5000, "0" * 5000, "0" * 4999 + "1", "65", "100", "1" * 60):
            self.wrong(f"machine ab xy {numeral}", 1, 4)
            self.wrong(f"{HEAD}\nbegin {numeral} -", 2, 2)
            self.wrong(f"{HEAD}\narc {numeral} a x 0", 2, 2)
            self.wrong(f"{HEAD}\narc 0 a x {numeral}", 2, 5)
            self.wrong(f"{HEAD}\nend {numeral} -", 2, 2)

    def test_no_states(self):
        self.wrong("machine ab xy 0\nbegin 0 -", 2, 2)
        self.wrong("machine ab xy 0\nend -1 -", 2, 2)

    def test_letters_of_the_other_alphabet(self):
        self.wrong("machine ab xy 1\nbegin 0 a", 2, 3)
        self.wrong("machine ab xy 1\narc 0 x x 0", 2, 3)
