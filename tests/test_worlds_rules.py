"""Points 3, 12 and 19: rules that are let by, and each way in which one isn't."""

import itertools
import unittest

from cellar import cellar_parts
from refusals import WorldCase
from strange import strange_values
from tellworld.asks import At, Both, Has, Kind, Lit, Marked, Not, Seen, Test, Word
from tellworld.deeds import Deed, Move, Put
from tellworld.rules import Rule

# By form, two verbs each: one of the world's, one of the common ones.
VERBS = {"alone": ("sing", "wait"), "one": ("rub", "take"), "two": ("tie", "put"), "way": ("climb", "go")}
NO_TERMS = ("nothing", "", "oak", "It", "me ", "you", "-", "rub", "up")
THINGS = ("hall", "cellar", "tin", "chest", "me", "bag", "torch", "coin", "altar")
HOLDERS = ("hall", "cellar", "tin", "chest", "bag", "me")
KINDS = ("room", "plain", "fixed", "box", "lamp", "you")


class NoTest(Test):
    """Stands under Test and has its methods, but is none of the nine."""

    def holds(self, world, stand, command):
        return True

    def reads(self, world, it, other):
        return ()

    def told(self):
        return ("lit",)


class NoDeed(Deed):
    def done(self, world, stand, command):
        return stand

    def reads(self, world, it, other):
        return ()

    def change(self, world, it, other):
        return None


class RuleCase(WorldCase):
    def rule(self, right, *rule):
        rules = [Rule("rub", [], [], "Rubbed."), Rule(*rule)]
        if right:
            self.let_by(rules=rules)
        else:
            self.refused(rules=rules)

    def asked(self, right, form, test):
        for verb in VERBS[form]:
            with self.subTest(verb=verb, test=vars(test), kind=test.__class__):
                self.rule(right, verb, [test], [], "Said.")
                self.rule(right, verb, [Lit(), test], [], "Said.", True)
                self.rule(right, verb, [Not(test)], [], "Said.")
                self.rule(right, verb, [Both(test, Lit())], [], "Said.")
                self.rule(right, verb, [Both(Lit(), Not(test))], [], "Said.")

    def deed_in(self, right, form, deed):
        for verb in VERBS[form]:
            with self.subTest(verb=verb, deed=vars(deed), kind=deed.__class__):
                self.rule(right, verb, [], [deed], "Said.")
                self.rule(right, verb, [], [Put("tide", 1), deed], "Said.")


class Heads(RuleCase):
    def test_verbs(self):
        for verb in ("rub", "tie", "climb", "sing") + VERBS["one"] + ("drop", "open", "shut", "light", "douse", "put"):
            self.rule(True, verb, [], [], "Said.")
        for verb in ("bind", "pull", "", "Rub", "it", "coin", "in", "to", "up"):
            self.rule(False, verb, [], [], "Said.")
        for verb in strange_values():
            self.rule(False, verb, [], [], "Said.")

    def test_texts(self):
        for text in ("x", " ", "x" * 60, "Taken.", "~!# 1", "it"):
            self.rule(True, "rub", [], [], text)
        for text in ("", "x" * 61, "x" * 1000):
            self.rule(False, "rub", [], [], text)
        for text in strange_values():
            if not isinstance(text, str):
                self.rule(False, "rub", [], [], text)

    def test_refuses(self):
        self.rule(True, "rub", [], [], "Said.", True)
        self.rule(True, "rub", [], [], "Said.", False)
        self.rule(True, "rub", [], [Put("tide", 1)], "Said.", False)
        self.rule(False, "rub", [], [Put("tide", 1)], "Said.", True)
        for refuses in (None, 1, 0, "yes", "", []):
            self.rule(False, "rub", [], [], "Said.", refuses)

    def test_count_of_rules(self):
        rule = Rule("rub", [], [], "Said.")
        for count in (0, 1, 20):
            self.let_by(rules=[rule] * count)
        self.refused(rules=[rule] * 21)

    def test_count_of_tests(self):
        for count in (0, 1, 5):
            self.rule(True, "rub", [Lit()] * count, [], "Said.")
        self.rule(False, "rub", [Lit()] * 6, [], "Said.")

    def test_count_of_deeds(self):
        for count in (0, 1, 4):
            self.rule(True, "rub", [], [Put("tide", 1)] * count, "Said.")
        self.rule(False, "rub", [], [Put("tide", 1)] * 5, "Said.")

    def test_what_is_no_list(self):
        for thing in strange_values():
            if not isinstance(thing, list):
                self.rule(False, "rub", thing, [], "Said.")
                self.rule(False, "rub", [], thing, "Said.")
                self.rule(False, "rub", [], thing, "Said.", True)
        self.rule(False, "rub", (Lit(),), [], "Said.")
        self.rule(False, "rub", [], (Put("tide", 1),), "Said.")
        self.rule(False, "rub", [], (), "Said.")

    def test_a_wrong_rule_anywhere(self):
        right, wrong = Rule("rub", [], [], "Said."), Rule("pull", [], [], "Said.")
        for rules in ([wrong, right], [right, wrong], [right, right, wrong, right]):
            self.refused(rules=rules)
        self.let_by(rules=[right, right, right])


class Depth(RuleCase):
    def test_nots(self):
        test = Lit()
        for deep in range(1, 8):
            self.rule(deep <= 4, "rub", [test], [], "Said.")
            self.rule(deep <= 4, "rub", [Lit(), test], [], "Said.", True)
            test = Not(test)

    def test_boths(self):
        left, right, full = Lit(), Lit(), Lit()
        for deep in range(1, 8):
            for test in (left, right, full):
                self.rule(deep <= 4, "rub", [test], [], "Said.")
            left, right, full = Both(left, Lit()), Both(Lit(), right), Both(full, full)

    def test_mixed(self):
        self.rule(True, "rub", [Not(Both(Lit(), Not(Lit())))], [], "Said.")
        self.rule(False, "rub", [Not(Both(Lit(), Not(Not(Lit()))))], [], "Said.")
        self.rule(False, "rub", [Both(Not(Not(Not(Lit()))), Lit())], [], "Said.")

    def test_far_too_deep(self):
        nots, boths = Lit(), Lit()
        for count in range(5000):
            nots, boths = Not(nots), Both(boths, boths)
        self.rule(False, "rub", [nots], [], "Said.")
        self.rule(False, "rub", [boths], [], "Said.")

    def test_within_itself(self):
        ring = Not(None)
        ring.inner = ring
        self.rule(False, "rub", [ring], [], "Said.")


class Terms(RuleCase):
    def with_term(self, term):
        return (At(term, "hall"), Has(term), Seen(term), Kind(term, "box"))

    def test_names_of_things(self):
        for form, term in itertools.product(VERBS, THINGS):
            for test in self.with_term(term):
                self.asked(True, form, test)

    def test_it_other_and_here(self):
        for form in VERBS:
            for test in self.with_term("it"):
                self.asked(form in ("one", "two"), form, test)
            for test in self.with_term("other"):
                self.asked(form == "two", form, test)
            for test in self.with_term("here"):
                self.asked(True, form, test)

    def test_names_of_marks_and_none(self):
        for term in ("tide", "door") + NO_TERMS:
            for test in self.with_term(term):
                self.asked(False, "one", test)

    def test_of_any_kind(self):
        for term in strange_values():
            for test in self.with_term(term) + (At("coin", term), Marked(term, 0), Kind("coin", term)):
                self.rule(False, "tie", [test], [], "Said.")
                self.rule(False, "tie", [Both(Lit(), Not(test))], [], "Said.")


class Places(RuleCase):
    def test_names_that_can_hold(self):
        for place in THINGS:
            self.asked(place in HOLDERS, "one", At("coin", place))
            self.deed_in(place in HOLDERS, "one", Move("coin", place))

    def test_like_the_thing_itself(self):
        self.asked(True, "one", At("chest", "chest"))
        self.deed_in(True, "one", Move("chest", "chest"))

    def test_it_other_and_here(self):
        for form in VERBS:
            self.asked(form in ("one", "two"), form, At("coin", "it"))
            self.asked(form == "two", form, At("coin", "other"))
            self.asked(True, form, At("coin", "here"))
            self.deed_in(form in ("one", "two"), form, Move("coin", "it"))
            self.deed_in(form == "two", form, Move("coin", "other"))
            self.deed_in(True, form, Move("coin", "here"))

    def test_no_places(self):
        for place in ("tide", "door") + NO_TERMS:
            self.asked(False, "one", At("coin", place))
            self.deed_in(False, "one", Move("coin", place))


class Values(RuleCase):
    def valued(self, right, form, term, value):
        self.asked(right, form, Marked(term, value))
        self.deed_in(right, form, Put(term, value))

    def test_by_names_of_marks(self):
        for name, most in (("tide", 3), ("door", 1), ("chest", 1), ("tin", 1), ("torch", 1)):
            for value in range(-2, 6):
                self.valued(0 <= value <= most, "one", name, value)
                self.valued(0 <= value <= most, "alone", name, value)

    def test_by_it_and_other(self):
        for value in range(-2, 6):
            self.valued(0 <= value <= 3, "one", "it", value)
            self.valued(0 <= value <= 3, "two", "it", value)
            self.valued(0 <= value <= 3, "two", "other", value)

    def test_it_and_other_where_they_may_not_stand(self):
        for form in ("alone", "way"):
            self.valued(False, form, "it", 0)
            self.valued(False, form, "other", 0)
        self.valued(False, "one", "other", 0)

    def test_by_here(self):
        for form in VERBS:
            self.valued(False, form, "here", 0)

    def test_by_what_has_no_mark(self):
        for name in ("coin", "altar", "hall", "me") + NO_TERMS:
            self.valued(False, "one", name, 0)

    def test_no_whole_numbers(self):
        for value in strange_values():
            if value.__class__ is not int:
                for term in ("tide", "chest", "it"):
                    self.valued(False, "one", term, value)
        self.valued(True, "one", "tide", 1)
        self.valued(True, "one", "it", 1)


class KindsAndWords(RuleCase):
    def test_kinds(self):
        for kind in KINDS:
            self.asked(True, "one", Kind("it", kind))
        for kind in ("", "Box", "thing", "mark", "it", "dark"):
            self.asked(False, "one", Kind("it", kind))

    def test_words(self):
        for form in VERBS:
            self.asked(form == "way", form, Word("up"))
        # Whether some way has the word plays no part.
        for word in ("up", "north", "b" * 12, "it", "coin", "rub", "undo"):
            self.asked(True, "way", Word(word))
        for word in ("", "the", "a", "b" * 13, "Up", "up down", "-"):
            self.asked(False, "way", Word(word))
        for word in strange_values():
            self.rule(False, "go", [Word(word)], [], "Said.")

    def test_lit(self):
        for form in VERBS:
            self.asked(True, form, Lit())


class Moves(RuleCase):
    def test_what_is_moved_by_its_name(self):
        for name in ("tin", "chest", "bag", "torch", "coin", "altar"):
            for form in VERBS:
                self.deed_in(True, form, Move(name, "hall"))
        for name in ("hall", "cellar", "tide", "door") + NO_TERMS:
            self.deed_in(False, "one", Move(name, "hall"))

    def test_what_is_moved_by_it_other_and_here(self):
        for form in VERBS:
            self.deed_in(form in ("one", "two"), form, Move("it", "hall"))
            self.deed_in(form == "two", form, Move("other", "hall"))
            self.deed_in(False, form, Move("here", "hall"))
            self.deed_in(False, form, Move("here", "here"))

    def test_of_you(self):
        for form in VERBS:
            self.deed_in(True, form, Move("me", "hall"))
            self.deed_in(True, form, Move("me", "cellar"))
            for place in ("here", "it", "other", "chest", "bag", "me", "coin", "tide", "nothing"):
                self.deed_in(False, form, Move("me", place))

    def test_to_you(self):
        self.deed_in(True, "one", Move("it", "me"))
        self.deed_in(True, "one", Move("altar", "me"))

    def test_of_any_kind(self):
        for thing in strange_values():
            for deed in (Move(thing, "hall"), Move("coin", thing), Move("me", thing), Move(thing, thing), Put(thing, 0)):
                self.rule(False, "tie", [], [deed], "Said.")


class WhatIsNone(RuleCase):
    def no_tests(self):
        return [thing for thing in strange_values() if not isinstance(thing, Has)] + [
            NoTest(), Lit, NoTest, Move("coin", "hall"), Put("tide", 1), ("lit",), ("has", "coin"), "lit",
        ]

    def no_deeds(self):
        return [thing for thing in strange_values() if not isinstance(thing, Move)] + [
            NoDeed(), Move, NoDeed, Lit(), Has("coin"), ("move", "coin", "hall"), "move",
        ]

    def test_no_test(self):
        for thing in self.no_tests():
            for test in (thing, Not(thing), Both(thing, Lit()), Both(Lit(), thing), Not(Not(Both(Lit(), thing)))):
                self.rule(False, "rub", [test], [], "Said.")
                self.rule(False, "rub", [Lit(), test], [], "Said.", True)

    def test_no_deed(self):
        for thing in self.no_deeds():
            self.rule(False, "rub", [], [thing], "Said.")
            self.rule(False, "rub", [], [Put("tide", 1), thing], "Said.")

    def test_no_rule(self):
        for thing in strange_values():
            if not isinstance(thing, Rule):
                self.refused(rules=[thing])
                self.refused(rules=[Rule("rub", [], [], "Said."), thing])
        self.refused(rules=[("rub", [], [], "Said.", False)])
        self.let_by(rules=[Rule("rub", [], [], "Said.")])


class WrongBesideRight(RuleCase):
    def test_one_of_many_is_wrong(self):
        tests = [Has("it"), Lit(), Not(Marked("tide", 0)), At("it", "me")]
        deeds = [Put("tide", 1), Move("it", "here"), Move("me", "cellar")]
        self.rule(True, "rub", tests, deeds, "Said.")
        for place in range(len(tests)):
            self.rule(False, "rub", tests[:place] + [Has("other")] + tests[place:], deeds, "Said.")
        for place in range(len(deeds)):
            self.rule(False, "rub", tests, deeds[:place] + [Put("tide", 4)] + deeds[place:], "Said.")

    def test_rules_of_worlds_with_other_things(self):
        rule = Rule("rub", [Has("coin")], [], "Said.")
        self.let_by(rules=[rule])
        without = [thing for thing in cellar_parts()["things"] if thing.name != "coin"]
        self.refused(rules=[rule], things=without)
        self.refused(rules=[Rule("rub", [], [], "Said.")], verbs=[])
        self.refused(rules=[Rule("rub", [Marked("tide", 2)], [], "Said.")], marks=cellar_parts()["marks"][1:])


if __name__ == "__main__":
    unittest.main()
