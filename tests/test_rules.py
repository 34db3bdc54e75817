import unittest

from tellworld.asks import At, Has, Not
from tellworld.deeds import Move
from tellworld.rules import Rule

STRANGE = (None, True, 3, -1, 1.5, "", "x", b"x", [], [1], (), ("x",), {}, {"x": 1}, set(), object(), len, At, Rule)


class Rules(unittest.TestCase):
    def test_fields_as_handed_in(self):
        tests, deeds = [Has("it"), Not(At("it", "here"))], [Move("it", "here")]
        rule = Rule("drop", tests, deeds, "Down.", False)
        self.assertEqual(
            vars(rule),
            {"verb": "drop", "tests": tests, "deeds": deeds, "text": "Down.", "refuses": False},
        )
        for kept, handed in zip(rule.tests + rule.deeds, tests + deeds):
            self.assertIs(kept, handed)

    def test_refuses_left_out(self):
        self.assertIs(Rule("wait", [], [], "Time goes by.").refuses, False)

    def test_refuses(self):
        self.assertIs(Rule("wait", [], [], "No.", True).refuses, True)

    def test_lists_changed_later_change_nothing(self):
        tests, deeds = [Has("it")], [Move("it", "here")]
        rule = Rule("drop", tests, deeds, "Down.")
        tests.clear()
        deeds.append("more")
        self.assertEqual([test.told() for test in rule.tests], [("has", "it")])
        self.assertEqual([deed.told() for deed in rule.deeds], [("move", "it", "here")])

    def test_lists_handed_in_are_not_changed(self):
        tests, deeds = [Has("it"), "no test"], [Move("it", "here"), None]
        ahead = (list(tests), list(deeds))
        Rule("drop", tests, deeds, "Down.")
        self.assertEqual((tests, deeds), ahead)

    def test_made_with_anything(self):
        for thing in STRANGE:
            with self.subTest(thing=thing):
                rule = Rule(thing, thing, thing, thing, thing)
                self.assertEqual(
                    (rule.verb, rule.tests, rule.deeds, rule.text, rule.refuses),
                    (thing, thing, thing, thing, thing),
                )

    def test_lists_of_anything(self):
        rule = Rule("drop", list(STRANGE), list(STRANGE), "Down.")
        self.assertEqual(rule.tests, list(STRANGE))
        self.assertEqual(rule.deeds, list(STRANGE))


if __name__ == "__main__":
    unittest.main()
