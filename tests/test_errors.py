"""Tests of lagbound.errors: the classes and attributes that the interface lists, points [4] and [5]."""

from lagbound import errors
from lagbound.words import check_letters, check_name, check_word
from support import HUGE, Case, lists_in

LISTED = {
    "BadLetters": ("value",), "BadWord": ("value",), "BadNumber": ("value",), "BadName": ("value",),
    "BadEntry": ("place", "index"), "BadLine": ("line", "place"), "BadCommand": ("place",),
    "Mismatch": (), "TooLarge": ("what", "limit"), "TwoWords": ("paper",), "Growing": ("paper",),
    "NoMove": ("letter",), "NotFinal": (), "Closed": (), "NothingToUndo": (),
    "NameTaken": ("name",), "NameUnknown": ("name",),
}


class ErrorClasses(Case):
    def test_base(self):
        self.assertEqual(errors.LagError.__bases__, (ValueError,))

    def test_every_class_derives_directly(self):
        for name in LISTED:
            self.assertEqual(getattr(errors, name).__bases__, (errors.LagError,), name)

    def test_attributes_by_place(self):
        for name, attributes in LISTED.items():
            values = [f"value {place}" for place in range(len(attributes))]
            error = getattr(errors, name)(*values)
            self.assertEqual([getattr(error, attribute) for attribute in attributes], values, name)

    def test_attributes_are_the_very_values(self):
        value = ["a", [HUGE]]
        for name in ("BadLetters", "BadWord", "BadNumber", "BadName", "NameTaken", "NameUnknown"):
            self.assertIs(getattr(getattr(errors, name)(value), LISTED[name][0]), value, name)

    def test_papers_are_copied(self):
        arcs = [(0, "a", "x", 0)]
        paper = (((0, ""), arcs), ((0, "x"), [(0, "a", "xx", 0)]), 0)
        for error in (errors.Growing(paper), errors.TwoWords(paper)):
            self.same(error.paper, paper)
            taken = {id(row) for row in lists_in(paper)}
            self.assertFalse([row for row in lists_in(error.paper) if id(row) in taken])
            error.paper[0][1].append(None)
            self.assertEqual(arcs, [(0, "a", "x", 0)])

    def test_paper_of_words(self):
        self.same(errors.TwoWords(("a", "x", "xx")).paper, ("a", "x", "xx"))


class LongValues(Case):
    def test_integers_beyond_the_text_conversion(self):
        value = 1 << 100000
        self.fails_with(errors.BadLetters, value, check_letters, value)
        self.fails_with(errors.BadWord, value, check_word, "ab", value)
        self.fails_with(errors.BadName, value, check_name, value)
