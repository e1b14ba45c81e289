"""Tests that the interface exists as it is written: points [2], [3] and [5]."""

import importlib
import inspect
import unittest

FUNCTIONS = {
    "words": {
        "is_letters": "(value)", "is_word": "(letters, value)", "check_letters": "(letters)",
        "check_word": "(letters, word)", "check_name": "(name)", "word_key": "(word)", "sort_words": "(words)",
        "first_word": "(words)", "all_words": "(letters, most)", "word_index": "(letters, word)",
        "word_at": "(letters, index)", "common": "(words)", "starts": "(prefix, word)", "cut": "(prefix, word)",
        "lag_of": "(first, second)", "move_lag": "(pair, first, second)", "turn_word": "(word)",
        "show_word": "(word)", "read_shown": "(letters, text)",
    },
    "acceptors": {"least_acceptor": "(acceptor)", "is_least_acceptor": "(acceptor)"},
    "wordsets": {
        "all_of": "(letters)", "none_of": "(letters)", "only": "(letters, words)", "least_word": "(acceptor)",
        "words_of": "(acceptor, *, most=20)", "count_words": "(acceptor, length)", "differ": "(first, second)",
    },
    "courses": {
        "is_way": "(machine, paper)", "is_course": "(machine, paper)", "read_of": "(course)", "told_of": "(course)",
        "course_count": "(machine, word)", "courses": "(machine, word, *, most=50)",
    },
    "telling": {
        "told_words": "(machine, word, *, most=20)", "least_told": "(machine, word)", "takes": "(machine, word)",
        "tells": "(machine, word, told)",
    },
    "machinetext": {"show_machine": "(machine)", "read_machine": "(text)"},
    "shaping": {
        "useful_states": "(machine)", "trim": "(machine)", "renumber": "(machine, order)", "unite": "(first, second)",
        "turn": "(machine)", "restrict": "(machine, acceptor)",
    },
    "behind": {"behind": "(first, second)"},
    "projections": {
        "taken": "(machine)", "all_told": "(machine)", "never_told": "(machine)", "copying": "(acceptor)",
    },
    "square": {
        "twin_pairs": "(machine, *, other=None)", "meeting_pairs": "(machine, *, other=None)",
        "pair_steps": "(machine, *, other=None)", "lags_after": "(machine, word, *, other=None)",
    },
    "onlyone": {
        "clash": "(machine, *, other=None)", "clash_bound": "(machine, *, other=None)",
        "one_lag_table": "(machine, *, other=None)", "is_one_lag": "(machine, table, *, other=None)",
        "two_words": "(machine)", "tells_one": "(machine)", "is_two_words": "(machine, paper)",
    },
    "growth": {
        "growth": "(machine)", "steady": "(machine)", "is_growth": "(machine, paper)", "lag_bound": "(machine)",
        "lag_table": "(machine)", "is_lag_table": "(machine, table)", "pumped_lag": "(paper, times)",
        "spread": "(machine, paper, times)",
    },
    "readers": {"empty_reader": "(read, write)", "reader_machine": "(reader)"},
    "rests": {
        "build": "(machine)", "rests": "(machine)", "is_rests": "(machine, reader, table)", "fate": "(machine)",
        "is_fate": "(machine, paper)",
    },
    "readertext": {"show_reader": "(reader)", "read_reader": "(text)"},
    "alike": {
        "parting": "(first, second)", "alike": "(first, second)", "is_parting": "(first, second, paper)",
        "alike_table": "(first, second)", "is_alike_table": "(first, second, table)", "reader_parting": "(first, second)",
    },
    "least": {
        "useful_reader_states": "(reader)", "ahead_table": "(reader)", "is_ahead": "(reader, table)", "early": "(reader)",
        "is_early": "(reader)", "least": "(reader)", "is_least": "(reader)", "apart": "(reader, i, j)",
        "apart_table": "(reader)", "is_apart": "(reader, table)", "sure": "(reader, word)",
    },
    "waiting": {
        "greatest_held": "(reader)", "rest_after": "(machine, word)", "greatest_wait": "(machine)",
        "wait_word": "(machine, length)",
    },
    "twopass": {"pass_paper": "(two_pass, word)", "is_pass_paper": "(machine, word, paper)"},
    "rules": {
        "spots": "(rules, word)", "rewrite": "(rules, word)", "is_spots": "(rules, word, paper)", "pending": "(rules)",
        "rule_reader": "(rules)", "untouched": "(rules)", "rewrite_all": "(cascade, word)", "cascade_reader": "(cascade)",
    },
    "teaching": {"learn": "(teacher, *, most=16)", "lesson": "(teacher, reader)", "is_lesson": "(reader, paper)"},
    "book": {"replay": "(lines)", "audit": "(rows)", "compare": "(first, second)"},
}

CLASSES = {
    "acceptors": {
        "Acceptor": ("(letters, moves, ends)", ("letters", "moves", "ends"),
                     {"__len__": "(self)", "__contains__": "(self, value)", "state_after": "(self, word)",
                      "__and__": "(self, other)", "__or__": "(self, other)", "__invert__": "(self)"}),
    },
    "machines": {
        "Machine": ("(read, write, size, *, begins=(), arcs=(), ends=())",
                    ("read", "write", "size", "begins", "arcs", "ends"), {"__len__": "(self)", "__iter__": "(self)"}),
    },
    "readers": {
        "Reader": ("(read, write, first, moves, finals)", ("read", "write", "first", "moves", "finals"),
                   {"__len__": "(self)", "__rshift__": "(self, other)", "state_after": "(self, word)",
                    "written_after": "(self, word)", "tell": "(self, word)", "tail": "(self, state, word)"}),
    },
    "session": {
        "Session": ("(reader)", ("state", "taken", "written", "held", "closed"),
                    {"__len__": "(self)", "__iter__": "(self)", "push": "(self, letter)", "close": "(self)", "back": "(self)"}),
    },
    "twopass": {
        "TwoPass": ("(machine)", ("labels", "rows"),
                    {"labels_of": "(self, word)", "course": "(self, word)", "tell": "(self, word)"}),
    },
    "rules": {"Rules": ("(letters, pairs)", ("letters", "pairs"), {"__len__": "(self)"})},
    "teaching": {
        "Teacher": ("(reader)", ("read", "write", "words_asked", "wholes_asked"),
                    {"__len__": "(self)", "__iter__": "(self)", "ask": "(self, word)", "whole": "(self, reader)"}),
    },
    "book": {
        "Book": ("()", ("names",), {"__len__": "(self)", "__iter__": "(self)", "run": "(self, line)", "undo": "(self)",
                                    "show": "(self, name)", "twin": "(self)"}),
    },
}


def module(name):
    return importlib.import_module("lagbound." + name)


class Interface(unittest.TestCase):
    def test_functions(self):
        for home, functions in FUNCTIONS.items():
            for name, signature in functions.items():
                function = getattr(module(home), name)
                self.assertTrue(inspect.isfunction(function), name)
                self.assertEqual(function.__module__, "lagbound." + home, name)
                self.assertEqual(str(inspect.signature(function)), signature, name)

    def test_classes(self):
        for home, classes in CLASSES.items():
            for name, (signature, properties, methods) in classes.items():
                made = getattr(module(home), name)
                self.assertEqual(made.__module__, "lagbound." + home, name)
                self.assertEqual(str(inspect.signature(made)), signature, name)
                for told in properties:
                    self.assertIsInstance(vars(made)[told], property, told)
                    self.assertIsNone(vars(made)[told].fset, told)
                for told, told_signature in methods.items():
                    self.assertEqual(str(inspect.signature(vars(made)[told])), told_signature, told)
