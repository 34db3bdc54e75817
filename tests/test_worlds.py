"""The interface of World (points 2, 13, 23): what it tells, in which order, and that nothing handed in is kept."""

import copy
import unittest

from cellar import ORDER, bare_world, cellar_parts, cellar_world, stand_where
from tellworld.asks import At, Has, Kind, Lit, Marked, Not
from tellworld.deeds import Move, Put
from tellworld.rules import Rule
from tellworld.stands import first_stand, is_stand
from tellworld.steps import commands, step
from tellworld.things import Mark, Thing, Verb
from tellworld.worlds import World

COMMON = ["take", "drop", "open", "shut", "light", "douse", "put", "go", "wait"]
PARTS = [
    ("at", "altar"), ("at", "bag"), ("at", "chest"), ("at", "coin"), ("at", "me"), ("at", "tin"), ("at", "torch"),
    ("mark", "bag"), ("mark", "chest"), ("mark", "door"), ("mark", "tide"), ("mark", "tin"), ("mark", "torch"),
]
NO_NAMES = ("nothing", "", "it", "here", "Hall", "oak", "rub")


def told_rules(rules):
    return [
        (rule.verb, [test.told() for test in rule.tests], [deed.told() for deed in rule.deeds], rule.text, rule.refuses)
        for rule in rules
    ]


def some_rules():
    return [
        Rule("rub", [Has("it"), Not(Lit())], [Put("tide", 1)], "It glows."),
        Rule("take", [Kind("it", "box")], [], "Too heavy.", True),
        Rule("rub", [], [], "Nothing."),
        Rule("sing", [Marked("door", 0)], [Put("door", 1), Move("coin", "here")], "A door opens."),
    ]


def all_told(world):
    """All that a world tells, objects by their fields, in copies, which stay when what the world tells is changed."""
    return copy.deepcopy((
        [vars(world.thing_of(name)) for name in world.names()],
        [vars(mark) for mark in world.own_marks()],
        world.dark_rooms(),
        world.own_ways(),
        world.way_words(),
        [vars(verb) for verb in world.all_verbs()],
        [told_rules(world.rules_of(verb.name)) for verb in world.all_verbs()],
        world.parts(),
        commands(world),
        first_stand(world),
        [step(world, first_stand(world), command) for command in commands(world)],
    ))


class Things(unittest.TestCase):
    def test_names_in_order(self):
        names = ["hall", "cellar", "tin", "chest", "me", "bag", "torch", "coin", "altar"]
        self.assertEqual(cellar_world().names(), names)

    def test_thing_of(self):
        things = cellar_parts()["things"]
        world = cellar_world(things=things)
        for thing in things:
            self.assertIs(world.thing_of(thing.name), thing)
        for name in NO_NAMES + ("tide", "door"):
            self.assertIsNone(world.thing_of(name))

    def test_of_kind(self):
        world = cellar_world()
        self.assertEqual(world.of_kind("room"), ["hall", "cellar"])
        self.assertEqual(world.of_kind("box"), ["tin", "chest", "bag"])
        self.assertEqual(world.of_kind("lamp"), ["torch"])
        self.assertEqual(world.of_kind("plain"), ["coin"])
        self.assertEqual(world.of_kind("fixed"), ["altar"])
        self.assertEqual(world.of_kind("you"), ["me"])
        self.assertEqual(world.of_kind("none"), [])

    def test_of_a_kind_that_nothing_is_of(self):
        world = bare_world([Thing("i", ("i",), "you", "den"), Thing("den", ("den",), "room")])
        self.assertEqual(world.of_kind("box"), [])
        self.assertEqual(world.of_kind("room"), ["den"])

    def test_you(self):
        self.assertEqual(cellar_world().you(), "me")
        self.assertEqual(bare_world([Thing("i", ("i",), "you", "den"), Thing("den", ("den",), "room")]).you(), "i")

    def test_is_dark(self):
        world = cellar_world()
        self.assertIs(world.is_dark("cellar"), True)
        self.assertIs(world.is_dark("hall"), False)
        for name in NO_NAMES:
            self.assertIs(world.is_dark(name), False)

    def test_dark_rooms_as_handed_in(self):
        self.assertEqual(cellar_world().dark_rooms(), ["cellar"])
        self.assertEqual(cellar_world(dark=["hall", "cellar"]).dark_rooms(), ["hall", "cellar"])
        self.assertEqual(cellar_world(dark=["cellar", "hall"]).dark_rooms(), ["cellar", "hall"])
        self.assertEqual(cellar_world(dark=[]).dark_rooms(), [])


class Marks(unittest.TestCase):
    def test_most_of(self):
        world = cellar_world(marks=[Mark("tide", 2, 3), Mark("door", 0, 1), Mark("flood", 0, 2)])
        wanted = {"tide": 3, "door": 1, "flood": 2, "chest": 1, "tin": 1, "bag": 1, "torch": 1}
        for name, most in wanted.items():
            self.assertEqual(world.most_of(name), most)
            self.assertIs(world.most_of(name).__class__, int)
        for name in NO_NAMES + ("coin", "altar", "hall", "me"):
            self.assertIsNone(world.most_of(name))

    def test_own_marks(self):
        marks = cellar_parts()["marks"]
        told = cellar_world(marks=marks).own_marks()
        self.assertIs(told.__class__, list)
        self.assertEqual(len(told), 2)
        for one, other in zip(told, marks):
            self.assertIs(one, other)

    def test_parts(self):
        self.assertEqual(cellar_world().parts(), PARTS)
        least = bare_world([Thing("i", ("i",), "you", "den"), Thing("den", ("den",), "room")])
        self.assertEqual(least.parts(), [("at", "i")])

    def test_parts_and_first_stand(self):
        world = cellar_world()
        self.assertEqual([part for part, value in first_stand(world)], PARTS)
        self.assertIs(is_stand(world, first_stand(world)), True)


class Ways(unittest.TestCase):
    WAYS = [
        ("hall", "up", "cellar", None),
        ("cellar", "west", "hall", "door"),
        ("cellar", "up", "cellar", "chest"),
        ("hall", "east", "hall", None),
    ]

    def test_own_ways(self):
        self.assertEqual(cellar_world(ways=list(self.WAYS)).own_ways(), self.WAYS)
        self.assertEqual(cellar_world(ways=[]).own_ways(), [])

    def test_way_words_sorted_each_once(self):
        self.assertEqual(cellar_world(ways=list(self.WAYS)).way_words(), ["east", "up", "west"])
        self.assertEqual(cellar_world(ways=[]).way_words(), [])


class Verbs(unittest.TestCase):
    def test_own_verbs(self):
        verbs = cellar_parts()["verbs"]
        told = cellar_world(verbs=verbs).own_verbs()
        self.assertEqual([verb.name for verb in told], ["rub", "tie", "climb", "sing"])
        for one, other in zip(told, verbs):
            self.assertIs(one, other)

    def test_all_verbs(self):
        verbs = cellar_parts()["verbs"]
        told = cellar_world(verbs=verbs).all_verbs()
        self.assertEqual([verb.name for verb in told], ["rub", "tie", "climb", "sing"] + COMMON)
        for one, other in zip(told, verbs):
            self.assertIs(one, other)
        for verb in told:
            self.assertIsInstance(verb, Verb)
        self.assertEqual([verb.name for verb in cellar_world(verbs=[]).all_verbs()], COMMON)

    def test_verb_of(self):
        verbs = cellar_parts()["verbs"]
        world = cellar_world(verbs=verbs)
        self.assertIs(world.verb_of("rub"), verbs[0])
        self.assertIs(world.verb_of("tie"), verbs[1])
        self.assertIs(world.verb_of("bind"), verbs[1])
        for name in COMMON:
            self.assertEqual(world.verb_of(name).name, name)
        for word in ("pull", "", "it", "coin", "to", "in", "up", "Rub"):
            self.assertIsNone(world.verb_of(word))


class Rules(unittest.TestCase):
    def test_own_rules(self):
        rules = some_rules()
        told = cellar_world(rules=rules).own_rules()
        self.assertEqual(len(told), 4)
        for one, other in zip(told, rules):
            self.assertIs(one, other)

    def test_rules_of_an_own_verb(self):
        rules = some_rules()
        told = cellar_world(rules=rules).rules_of("rub")
        self.assertEqual(len(told), 2)
        self.assertIs(told[0], rules[0])
        self.assertIs(told[1], rules[2])

    def test_own_ahead_of_the_common_ones(self):
        rules = some_rules()
        told = cellar_world(rules=rules).rules_of("take")
        self.assertIs(told[0], rules[1])
        self.assertEqual([rule.text for rule in told], ["Too heavy.", "That stays.", "You have that.", "Taken."])
        for rule in told:
            self.assertIsInstance(rule, Rule)

    def test_common_rules_of_go_are_those_of_the_worlds_ways(self):
        self.assertEqual(
            told_rules(cellar_world().rules_of("go")),
            [
                ("go", [("at", "me", "hall"), ("word", "down"), ("not", ("marked", "door", 0))],
                 [("move", "me", "cellar")], "You go.", False),
                ("go", [("at", "me", "cellar"), ("word", "up")], [("move", "me", "hall")], "You go.", False),
                ("go", [], [], "No way there.", True),
            ],
        )

    def test_none(self):
        world = cellar_world(rules=some_rules())
        for name in ("tie", "climb", "bind", "pull", "", "it"):
            self.assertEqual(world.rules_of(name), [])

    def test_one_rule_twice(self):
        rule = some_rules()[0]
        self.assertEqual(cellar_world(rules=[rule, rule]).rules_of("rub"), [rule, rule])


class NothingIsKept(unittest.TestCase):
    def test_lists_handed_in_stay_as_they_were(self):
        parts = cellar_parts()
        parts["rules"] = some_rules()
        ahead = {name: list(value) for name, value in parts.items()}
        told = told_rules(parts["rules"])
        world = World(*[parts[name] for name in ORDER])
        all_told(world)
        self.assertEqual(parts, ahead)
        self.assertEqual(told_rules(parts["rules"]), told)

    def test_lists_handed_in_and_changed_later(self):
        parts = cellar_parts()
        parts["rules"] = some_rules()
        world = World(*[parts[name] for name in ORDER])
        ahead = all_told(world)
        for value in parts.values():
            value.reverse()
        self.assertEqual(all_told(world), ahead)
        for value in parts.values():
            value.clear()
        self.assertEqual(all_told(world), ahead)
        for value in parts.values():
            value.append("anything")
        self.assertEqual(all_told(world), ahead)

    def test_lists_within_rules_handed_in_and_changed_later(self):
        tests, deeds = [Lit()], [Put("tide", 1)]
        rule = Rule("rub", tests, deeds, "Said.")
        world = cellar_world(rules=[rule])
        ahead = all_told(world)
        tests.clear()
        deeds.append("anything")
        self.assertEqual(all_told(world), ahead)

    def test_lists_of_a_rule_changed_later_leave_the_steps_alone(self):
        rule = Rule("rub", [Not(Lit())], [Put("tide", 1)], "Said.")
        world = cellar_world(rules=[rule, Rule("rub", [], [], "Rubbed.")])
        stand = stand_where(world)
        ahead = step(world, stand, ("rub", "bag", None))
        rule.tests.clear()
        rule.deeds.clear()
        self.assertEqual(step(world, stand, ("rub", "bag", None)), ahead)
        self.assertEqual(ahead, (("told", "Rubbed."), stand))

    def test_lists_told_and_changed_later(self):
        world = cellar_world(rules=some_rules())
        ahead = all_told(world)
        for told in (
            world.names(), world.of_kind("box"), world.own_marks(), world.own_ways(), world.own_verbs(),
            world.own_rules(), world.dark_rooms(), world.way_words(), world.all_verbs(), world.rules_of("take"),
            world.rules_of("rub"), world.rules_of("tie"), world.parts(), commands(world),
        ):
            told.append("anything")
            told.reverse()
            self.assertEqual(all_told(world), ahead)
            told.clear()
            self.assertEqual(all_told(world), ahead)

    def test_lists_within_common_rules_that_are_told(self):
        world = cellar_world()
        ahead = all_told(world)
        for name in COMMON:
            for rule in world.rules_of(name):
                rule.tests.clear()
                rule.deeds.append("anything")
        self.assertEqual(all_told(world), ahead)

    def test_worlds_of_the_same_lists_are_apart(self):
        parts = cellar_parts()
        one = World(*[parts[name] for name in ORDER])
        parts["dark"].append("hall")
        two = World(*[parts[name] for name in ORDER])
        self.assertEqual((one.dark_rooms(), two.dark_rooms()), (["cellar"], ["cellar", "hall"]))
        self.assertIs(one.thing_of("coin"), two.thing_of("coin"))

    def test_asked_again_the_same_is_told(self):
        world = cellar_world(rules=some_rules())
        self.assertEqual(all_told(world), all_told(world))
        self.assertEqual(all_told(world), all_told(cellar_world(rules=some_rules())))


class Fields(unittest.TestCase):
    def test_no_method_is_hidden_by_a_field(self):
        world = cellar_world()
        for name in (
            "names", "thing_of", "of_kind", "you", "is_dark", "most_of", "own_marks", "own_ways", "own_verbs",
            "own_rules", "dark_rooms", "way_words", "all_verbs", "verb_of", "rules_of", "parts",
        ):
            self.assertTrue(callable(getattr(world, name)))
            self.assertNotIn(name, vars(world))

    def test_tests_of_rules_are_kept_as_objects(self):
        test = At("it", "me")
        rule = Rule("rub", [test], [], "Said.")
        self.assertIs(cellar_world(rules=[rule]).rules_of("rub")[0].tests[0], test)


if __name__ == "__main__":
    unittest.main()
