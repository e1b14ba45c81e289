"""Tests of promises over several modules at once: what is built, learned, rewritten and told in different ways agrees."""

from lagbound.alike import alike, alike_table, is_alike_table, parting, reader_parting
from lagbound.behind import behind
from lagbound.book import Book, audit, replay
from lagbound.courses import courses, is_course, told_of
from lagbound.errors import LagError, TooLarge
from lagbound.growth import steady
from lagbound.least import ahead_table, early, is_ahead, is_early, is_least, least, sure
from lagbound.machinetext import read_machine, show_machine
from lagbound.onlyone import tells_one
from lagbound.projections import all_told, copying, taken
from lagbound.readers import reader_machine
from lagbound.readertext import read_reader, show_reader
from lagbound.rests import build, fate, is_fate, is_rests, rests
from lagbound.rules import Rules, cascade_reader, pending, rewrite, rewrite_all, rule_reader, spots, untouched
from lagbound.session import Session
from lagbound.shaping import renumber, restrict, trim, turn, unite
from lagbound.teaching import Teacher, is_lesson, learn, lesson
from lagbound.telling import least_told, takes, tells, told_words
from lagbound.twopass import TwoPass, is_pass_paper, pass_paper
from lagbound.waiting import greatest_held, greatest_wait, rest_after, wait_word
from lagbound.words import starts
from lagbound.wordsets import all_of, differ, words_of
from pair_samples import parts
from reader_samples import common_by, full_reader, random_reader, reader_parts
from support import Case, seeded, words_up_to
from test_book import packed, shown
from test_rests import good_machines, some_machines
from test_rules import random_pairs


def session_told(reader, word):
    """What a session writes for the word in all, or None if it raises an error on the way."""
    session = Session(reader)
    try:
        for letter in word:
            session.push(letter)
        session.close()
    except LagError:
        return None
    return session.written


class Machines(Case):
    def test_all_ways_to_tell(self):
        for machine in good_machines(311, 120)[:40]:
            reader, two_pass = build(machine), TwoPass(machine)
            forms = [reader, early(reader), least(reader), learn(Teacher(reader), most=len(reader)), read_reader(show_reader(reader))]
            others = [trim(machine), read_machine(show_machine(machine)), turn(turn(machine)), reader_machine(reader),
                      reader_machine(forms[2]), restrict(machine, all_of(machine.read)), unite(machine, machine)]
            accepted = taken(machine)
            for word in words_up_to(machine.read, 4):
                words, more = told_words(machine, word)
                told = words[0] if words else None
                self.same((len(words) < 2, more), (True, False))
                self.same((takes(machine, word), word in accepted, told is not None), (told is not None,) * 3)
                self.same([form.tell(word) for form in forms], [told] * len(forms))
                self.same([least_told(other, word) for other in others], [told] * len(others))
                self.same((two_pass.tell(word), session_told(reader, word)), (told, told))
                self.assertIs(is_pass_paper(machine, word, pass_paper(two_pass, word)), True)
                if told is not None:
                    self.assertIs(tells(machine, word, told), True)
                    self.same(told_of(courses(machine, word, most=1)[0]), told)
                    self.assertIs(is_course(machine, two_pass.course(word)), True)
                    self.assertIs(told in all_told(machine), True)
                if rest_after(machine, word) is not None:
                    written, row = rest_after(machine, word)
                    self.same(written, reader.written_after(word))
                    self.assertTrue(sure(reader, word).startswith(written) if sure(reader, word) is not None else not row)

    def test_alike_in_all_ways(self):
        unlike = 0
        machines = good_machines(312, 120)
        for first, second in zip(machines, machines[1:] + machines[:1]):
            if first.read != second.read:
                continue
            readers = build(first), build(second)
            forms = [least(reader) for reader in readers]
            same = parting(first, second) is None
            self.assertIs(alike(first, second), same)
            self.assertEqual(show_reader(forms[0]) == show_reader(forms[1]), same)
            self.assertEqual(alike_table(first, second) is not None, same)
            self.same(reader_parting(*readers), parting(first, second))
            self.same(reader_parting(*forms), parting(first, second))
            paper = parting(first, second)
            self.same(Teacher(readers[0]).whole(readers[1]), None if same else paper[0])
            word = differ(taken(first), taken(second))
            self.assertTrue(word is None or (len(paper[0]), paper[0]) <= (len(word), word))
            unlike += not same
        self.assertGreater(unlike, 20)

    def test_a_machine_and_its_reader(self):
        for machine in good_machines(313, 120)[:40]:
            reader = build(machine)
            self.assertIsNone(parting(machine, reader_machine(reader)))
            table = alike_table(machine, reader_machine(reader))
            self.assertIs(is_alike_table(machine, reader_machine(reader), table), True)
            order = list(reversed(range(machine.size)))
            self.assertIs(alike(renumber(machine, order), machine), True)
            self.assertIs(is_rests(machine, reader, rests(machine)), True)
            length, word = greatest_wait(machine)
            self.same(wait_word(machine, length), word)
            self.assertIsNone(wait_word(machine, length + 1))
            held = greatest_held(reader)
            self.assertIn(held[1], words_of(taken(machine), most=200))

    def test_each_fate(self):
        kinds = {}
        for machine in some_machines(314, 150):
            told = fate(machine)
            self.assertIs(is_fate(machine, told), True)
            self.same((tells_one(machine), told[0] != "two"), (told[0] != "two",) * 2)
            if told[0] != "two":
                self.assertIs(steady(machine), told[0] == "reader")
            kinds[told[0]] = kinds.get(told[0], 0) + 1
            before = parts(machine)
            self.same(TwoPass(machine).labels, TwoPass(machine).labels)
            self.same(parts(machine), before)
        self.assertGreater(min(kinds.values()), 10)

    def test_one_behind_the_other(self):
        source = seeded(315)
        some = 0
        for _ in range(80):
            first = random_reader(source, write="ab", words=("", "a", "b", "ab"), most=3)
            second = random_reader(source, most=3)
            machine = behind(reader_machine(first), reader_machine(second))
            both = first >> second
            self.assertIs(tells_one(machine), True)
            self.assertIsNone(parting(machine, reader_machine(both)))
            self.same(show_reader(least(build(machine))), show_reader(least(both)))
            for word in words_up_to("ab", 4):
                middle = first.tell(word)
                told = None if middle is None else second.tell(middle)
                self.same((both.tell(word), least_told(machine, word)), (told, told))
                some += told is not None
        self.assertGreater(some, 100)

    def test_copying_tells_what_is_taken(self):
        for machine in good_machines(316, 60)[:20]:
            accepted = taken(machine)
            copy = copying(accepted)
            self.assertIsNone(reader_parting(build(copy), least(build(copy))))
            self.same((taken(copy).moves, all_told(copy).moves), (accepted.moves, accepted.moves))
            self.assertIs(alike(restrict(copy, accepted), copy), True)
            self.assertIs(alike(behind(copy, machine), machine), True)


class RulesAndReaders(Case):
    def test_rules_in_all_ways(self):
        source = seeded(317)
        for at in range(40):
            letters = ("ab", "abc")[at % 2]
            rules = Rules(letters, random_pairs(source, letters, 3, 3, 2))
            reader = rule_reader(rules)
            form = least(reader)
            machine = reader_machine(reader)
            self.same((taken(machine).moves, taken(machine).ends), (all_of(letters).moves, [0]))
            teacher = Teacher(reader)
            learned = learn(teacher, most=len(form))
            self.same(show_reader(learned), show_reader(form))
            self.assertIs(is_lesson(reader, lesson(teacher, learned)), True)
            clean = untouched(rules)
            two_pass = TwoPass(machine)
            for word in words_up_to(letters, 4):
                told = rewrite(rules, word)
                self.same([reader.tell(word), learned.tell(word), two_pass.tell(word), session_told(reader, word)], [told] * 4)
                self.same(word in clean, spots(rules, word) == [])
                self.assertTrue(word not in clean or told == word)
                self.same(reader.written_after(word) + rewrite(rules, pending(rules)[reader.state_after(word)]), told)
            same = restrict(machine, clean)
            self.assertIs(alike(same, copying(clean)), True)

    def test_cascades_in_all_ways(self):
        source = seeded(318)
        compared = 0
        for _ in range(40):
            cascade = [Rules("ab", random_pairs(source, "ab", 2, 3, 2)) for _ in range(source.randint(2, 3))]
            try:
                reader = cascade_reader(cascade)
                machine = reader_machine(rule_reader(cascade[0]))
                for rules in cascade[1:]:
                    machine = behind(machine, reader_machine(rule_reader(rules)))
            except TooLarge:
                continue
            self.assertIsNone(parting(machine, reader_machine(reader)))
            self.same(show_reader(least(build(machine))), show_reader(least(reader)))
            for word in words_up_to("ab", 5):
                self.same(reader.tell(word), rewrite_all(cascade, word))
            compared += 1
        self.assertGreater(compared, 20)


class Readers(Case):
    def test_forms(self):
        source = seeded(319)
        for at in range(60):
            reader = random_reader(source) if at % 2 else full_reader(source, most=4)
            before = reader_parts(reader)
            form, first = least(reader), early(reader)
            self.same((is_least(form), is_early(form), is_early(first)), (True, True, True))
            self.assertIsNone(parting(reader_machine(form), reader_machine(first)))
            self.same([is_ahead(told, ahead_table(told)) for told in (reader, form, first)], [True] * 3)
            session = Session(first)
            for word in words_up_to("ab", 3):
                told = [reader.tell(word + more) for more in words_up_to("ab", 6)]
                self.same(sure(reader, word), common_by(told))
                self.same(sure(form, word), sure(reader, word))
                if sure(reader, word) is not None:
                    self.assertTrue(starts(reader.written_after(word), sure(reader, word)))
                    for letter in word:
                        session.push(letter)
                    self.same(session.written, sure(reader, word))
                    for letter in reversed(word):
                        self.same(session.back(), letter)
            self.same(reader_parts(reader), before)


class Books(Case):
    def test_the_same_as_the_functions(self):
        for machine in good_machines(320, 60)[:20]:
            book = Book()
            lines = ["machine m " + packed(show_machine(machine)), "build r m", "least l r", "turn t m", "trim k m", "paper p m",
                     "judge p m", "judge p k", "part r l", "open s l"]
            answers = [book.run(line) for line in lines]
            reader = build(machine)
            self.same(answers[1:3] + answers[5:7] + answers[8:], [
                f"reader {len(reader)}", f"reader {len(least(reader))}", "reader", "right", "alike",
                f"session {shown(least(reader).first)}"])
            self.same(answers[7], "right" if is_fate(trim(machine), fate(machine)) else "wrong")
            for word in words_up_to(machine.read, 3):
                told = shown(reader.tell(word))
                self.same([book.run(f"tell {name} {shown(word)}") for name in "mrlk"], [told] * 4)
                book.undo()
            self.assertIsNone(audit(list(book)))
            self.same(list(replay([line for line, _ in book])), list(book))
            taught = learn(Teacher(reader), most=len(reader))
            self.same(book.show("l"), show_reader(taught))
