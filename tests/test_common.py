"""Point 20: the common verbs and rules."""

import unittest

from tellworld.common import common_rules, common_verbs
from tellworld.rules import Rule
from tellworld.things import Verb

WAYS = [("hall", "down", "cellar", "door"), ("cellar", "up", "hall", None), ("hall", "out", "hall", "chest")]
NOT_BOX = ("not", ("kind", "it", "box"))
NOT_LAMP = ("not", ("kind", "it", "lamp"))
AHEAD_OF_GO = [
    ("take", [("kind", "it", "fixed")], [], "That stays.", True),
    ("take", [("at", "it", "me")], [], "You have that.", True),
    ("take", [], [("move", "it", "me")], "Taken.", False),
    ("drop", [("has", "it")], [("move", "it", "here")], "Dropped.", False),
    ("drop", [], [], "You lack that.", True),
    ("put", [("not", ("has", "it"))], [], "You lack that.", True),
    ("put", [("not", ("kind", "other", "box"))], [], "It holds nothing.", True),
    ("put", [("marked", "other", 0)], [], "It is shut.", True),
    ("put", [], [("move", "it", "other")], "Done.", False),
    ("open", [NOT_BOX], [], "It has no lid.", True),
    ("open", [("marked", "it", 1)], [], "It is open.", True),
    ("open", [], [("put", "it", 1)], "Opened.", False),
    ("shut", [NOT_BOX], [], "It has no lid.", True),
    ("shut", [("marked", "it", 0)], [], "It is shut.", True),
    ("shut", [], [("put", "it", 0)], "Shut.", False),
    ("light", [NOT_LAMP], [], "It burns not.", True),
    ("light", [("marked", "it", 1)], [], "It is lit.", True),
    ("light", [], [("put", "it", 1)], "Lit.", False),
    ("douse", [NOT_LAMP], [], "It burns not.", True),
    ("douse", [("marked", "it", 0)], [], "It is out.", True),
    ("douse", [], [("put", "it", 0)], "Doused.", False),
]
BEHIND_WAYS = [("go", [], [], "No way there.", True), ("wait", [], [], "Time goes by.", False)]


def told(rules):
    return [
        (rule.verb, [test.told() for test in rule.tests], [deed.told() for deed in rule.deeds], rule.text, rule.refuses)
        for rule in rules
    ]


class CommonVerbs(unittest.TestCase):
    def test_the_nine_in_order(self):
        self.assertEqual(
            [(verb.name, verb.others, verb.form, verb.joining) for verb in common_verbs()],
            [(name, (), "one", None) for name in ("take", "drop", "open", "shut", "light", "douse")]
            + [("put", (), "two", "in"), ("go", (), "way", None), ("wait", (), "alone", None)],
        )

    def test_they_are_verbs_in_a_new_list(self):
        verbs = common_verbs()
        self.assertIs(verbs.__class__, list)
        for verb in verbs:
            self.assertIsInstance(verb, Verb)
        verbs.clear()
        self.assertEqual(len(common_verbs()), 9)


class CommonRules(unittest.TestCase):
    def test_without_ways(self):
        self.assertEqual(told(common_rules("me", [])), AHEAD_OF_GO + BEHIND_WAYS)

    def test_with_ways(self):
        go = [
            ("go", [("at", "me", "hall"), ("word", "down"), ("not", ("marked", "door", 0))],
             [("move", "me", "cellar")], "You go.", False),
            ("go", [("at", "me", "cellar"), ("word", "up")], [("move", "me", "hall")], "You go.", False),
            ("go", [("at", "me", "hall"), ("word", "out"), ("not", ("marked", "chest", 0))],
             [("move", "me", "hall")], "You go.", False),
        ]
        self.assertEqual(told(common_rules("me", WAYS)), AHEAD_OF_GO + go + BEHIND_WAYS)

    def test_ways_in_their_order(self):
        words = [rule.tests[1].word for rule in common_rules("me", WAYS[::-1]) if rule.text == "You go."]
        self.assertEqual(words, ["out", "up", "down"])

    def test_by_the_name_of_you(self):
        told_others = [
            (verb, [tuple("i" if word == "me" else word for word in test) for test in tests],
             [tuple("i" if word == "me" else word for word in deed) for deed in deeds], text, refuses)
            for verb, tests, deeds, text, refuses in told(common_rules("me", WAYS))
        ]
        self.assertEqual(told(common_rules("i", WAYS)), told_others)

    def test_they_are_rules(self):
        for rule in common_rules("me", WAYS):
            self.assertIsInstance(rule, Rule)
            self.assertIs(rule.refuses.__class__, bool)

    def test_texts_end_with_a_point(self):
        for rule in common_rules("me", WAYS):
            self.assertTrue(rule.text.endswith("."))

    def test_what_is_told_is_the_askers_own(self):
        rules = common_rules("me", WAYS)
        for rule in rules:
            rule.tests.clear()
            rule.deeds.clear()
        rules.clear()
        self.assertEqual(told(common_rules("me", [])), AHEAD_OF_GO + BEHIND_WAYS)

    def test_ways_handed_in_are_neither_changed_nor_kept(self):
        ways = list(WAYS)
        rules = common_rules("me", ways)
        self.assertEqual(ways, WAYS)
        ahead = told(rules)
        ways.clear()
        self.assertEqual(told(rules), ahead)


if __name__ == "__main__":
    unittest.main()
