"""Points 5, 29, 30 and 31: wishes, what matters for them, and folds."""

import random
import unittest

from cellar import bare_world, cellar_world, random_stands, stand_where
from drawn import drawn_stands, drawn_value, drawn_wishes, drawn_worlds
from tellworld.asks import At, Both, Has, Kind, Lit, Marked, Not, Seen, Word
from tellworld.deeds import Move, Put
from tellworld.errors import NoWish
from tellworld.folds import fold, is_closed, lifted, matters
from tellworld.rules import Rule
from tellworld.stands import first_stand, is_stand
from tellworld.steps import commands, step
from tellworld.things import Mark, Thing, Verb
from tellworld.worlds import World
from wishes import right_wishes, wrong_wishes


def at(*names):
    return [("at", name) for name in names]


def mark(*names):
    return [("mark", name) for name in names]


class Wishes(unittest.TestCase):
    def setUp(self):
        self.world = cellar_world()

    def test_right_ones(self):
        for wish in right_wishes():
            with self.subTest(wish=wish.told()):
                parts = matters(self.world, wish)
                self.assertIs(is_closed(self.world, wish, parts), True)

    def test_wrong_ones(self):
        for wish in wrong_wishes():
            with self.subTest(wish=repr(wish)):
                with self.assertRaises(NoWish) as refusal:
                    matters(self.world, wish)
                self.assertIs(refusal.exception.__class__, NoWish)
                self.assertEqual(vars(refusal.exception), {})
                with self.assertRaises(NoWish):
                    is_closed(self.world, wish, [])

    def test_ahead_of_all_else(self):
        for wish in (Word("up"), None, Has("it"), At("coin", "here")):
            for parts in ([], None, [("at", "nobody")], 3, self.world.parts()):
                self.assertRaises(NoWish, is_closed, self.world, wish, parts)

    def test_a_thing_called_like_a_ways_word(self):
        world = bare_world([Thing("hall", ("hall",), "room"), Thing("me", ("me",), "you", "hall"),
                            Thing("up", ("stick",), "plain", "hall")])
        self.assertRaises(NoWish, matters, world, Word("up"))
        self.assertEqual(matters(world, Kind("up", "plain")), [])


class Bell(unittest.TestCase):
    """Small worlds whose parts that matter are reckoned by hand."""

    def world(self, rules=(), ways=(), things=(), verbs=()):
        rooms = [Thing("hall", ("hall",), "room"), Thing("loft", ("loft",), "room"),
            Thing("me", ("me",), "you", "hall")]
        marks = [Mark("bell", 0, 1), Mark("rope", 0, 3), Mark("wind", 0, 1), Mark("rain", 0, 1)]
        own = [Verb("ring", (), "alone"), Verb("pull", (), "way")] + list(verbs)
        return World(rooms + list(things), marks, ["loft"], list(ways), own, list(rules))

    def matter(self, world, wish, parts):
        told = matters(world, wish)
        self.assertEqual(told, parts)
        self.assertIs(told.__class__, list)
        self.assertIs(is_closed(world, wish, parts), True)
        for part in parts:
            fewer = [one for one in parts if one != part]
            self.assertIs(is_closed(world, wish, fewer), False, part)
        self.assertIs(is_closed(world, wish, world.parts()), True)

    def test_a_wish_that_no_rule_touches(self):
        world = self.world([Rule("ring", [Marked("wind", 0)], [Put("rain", 1)], "Rung.")])
        self.matter(world, Marked("bell", 1), mark("bell"))
        self.matter(world, Both(Marked("rope", 1), Marked("bell", 0)), mark("bell", "rope"))
        self.matter(world, At("me", "hall"), at("me"))
        self.matter(world, Not(Lit()), at("me"))

    def test_a_wish_that_reads_nothing(self):
        world = self.world([Rule("ring", [Marked("wind", 0)], [Put("rain", 1)], "Rung.")])
        for wish in (Kind("me", "you"), At("hall", "loft"), Not(Kind("hall", "box")), Has("loft")):
            self.matter(world, wish, [])

    def test_has_and_seen_of_what_is_never_had(self):
        world = self.world()
        self.matter(world, Has("me"), at("me"))
        self.matter(world, Seen("hall"), at("me"))

    def test_tests_of_the_rule(self):
        world = self.world([Rule("ring", [Marked("wind", 0), Not(Marked("rope", 2))], [Put("bell", 1)], "Rung.")])
        self.matter(world, Marked("bell", 1), mark("bell", "rope", "wind"))
        self.matter(world, Marked("wind", 1), mark("wind"))

    def test_what_is_read_matters_in_turn(self):
        world = self.world([
            Rule("ring", [Marked("wind", 0)], [Put("bell", 1)], "Rung."),
            Rule("wait", [Marked("rain", 1)], [Put("wind", 1)], "It blows."),
        ])
        self.matter(world, Marked("bell", 1), mark("bell", "rain", "wind"))
        self.matter(world, Marked("wind", 1), mark("rain", "wind"))
        self.matter(world, Marked("rain", 1), mark("rain"))

    def test_rules_ahead_and_behind(self):
        rules = [
            Rule("ring", [Marked("wind", 0)], [], "Nothing."),
            Rule("ring", [Marked("rope", 0)], [Put("bell", 1)], "Rung."),
            Rule("ring", [Marked("rain", 0)], [], "Dull."),
        ]
        self.matter(self.world(rules), Marked("bell", 1), mark("bell", "rope", "wind"))
        self.matter(self.world(rules[::-1]), Marked("bell", 1), mark("bell", "rain", "rope"))
        self.matter(self.world(rules[1:] + rules[:1]), Marked("bell", 1), mark("bell", "rope"))

    def test_rules_that_refuse(self):
        rules = [
            Rule("ring", [Marked("wind", 0)], [], "No wind.", True),
            Rule("ring", [], [Put("bell", 1)], "Rung."),
            Rule("ring", [Marked("rain", 0)], [], "Dull.", True),
        ]
        self.matter(self.world(rules), Marked("bell", 1), mark("bell", "wind"))
        self.matter(self.world(rules[:1]), Marked("bell", 1), mark("bell"))

    def test_several_rules_that_change_it(self):
        rules = [
            Rule("ring", [Marked("wind", 0)], [Put("bell", 0)], "Rung."),
            Rule("ring", [Marked("rain", 0)], [], "Dull."),
            Rule("ring", [Marked("rope", 0)], [Put("bell", 1)], "Rung."),
        ]
        self.matter(self.world(rules), Marked("bell", 1), mark("bell", "rain", "rope", "wind"))
        self.matter(self.world(rules[:2]), Marked("bell", 1), mark("bell", "wind"))

    def test_reads_of_deeds_of_the_rules_that_change_alone(self):
        things = [Thing("coin", ("coin",), "plain", "hall")]
        rules = [
            Rule("ring", [Marked("wind", 0)], [Move("coin", "here")], "Nothing."),
            Rule("ring", [], [Put("bell", 1)], "Rung."),
        ]
        # Where the coin goes hangs on your room, but the bell doesn't.
        self.matter(self.world(rules, things=things), Marked("bell", 1), mark("bell", "wind"))
        both = [Rule("ring", [], [Put("bell", 1), Move("coin", "here")], "Rung.")]
        self.matter(self.world(both, things=things), Marked("bell", 1), at("me") + mark("bell"))

    def test_boxes_that_a_deed_moves(self):
        things = [Thing("bag", ("bag",), "box", "hall"), Thing("tin", ("tin",), "box", "hall")]
        rules = [Rule("ring", [], [Put("bell", 1), Move("bag", "tin")], "Rung.")]
        # Either box may be moved, for which it must be seen, for which all lids count.
        self.matter(self.world(rules, things=things), Marked("bell", 1),
                    at("bag", "me", "tin") + mark("bag", "bell", "tin"))

    def test_deeds_that_never_can_be_done(self):
        things = [Thing("coin", ("coin",), "plain", "hall")]
        verbs = [Verb("toss", (), "one")]
        rules = [Rule("toss", [Marked("wind", 0)], [Put("it", 1)], "Tossed.")]
        # A coin has no mark, so no command changes what the rule speaks of.
        self.matter(self.world(rules, things=things, verbs=verbs), Marked("bell", 1), mark("bell"))
        rules = [Rule("toss", [Marked("wind", 0)], [Put("it", 1), Put("bell", 1)], "Tossed.")]
        self.matter(self.world(rules, things=things, verbs=verbs), Marked("bell", 1),
                    at("coin", "me") + mark("bell", "wind"))

    def test_ways(self):
        ways = [("hall", "up", "loft", "rope"), ("loft", "down", "hall", None)]
        world = self.world(ways=ways)
        self.matter(world, At("me", "loft"), at("me") + mark("rope"))
        # The ways behind count too, and the rule of the world ahead of them.
        world = self.world([Rule("go", [Word("down"), Marked("wind", 1)], [], "You dare not.", True)], ways=ways)
        self.matter(world, At("me", "loft"), at("me") + mark("rope", "wind"))
        world = self.world([Rule("pull", [Marked("rain", 1)], [Put("rope", 3)], "Pulled.")], ways=ways)
        self.matter(world, At("me", "loft"), at("me") + mark("rain", "rope"))
        # Without ways there is no command that pulls.
        world = self.world([Rule("pull", [Marked("rain", 1)], [Put("rope", 3)], "Pulled.")])
        self.matter(world, Marked("rope", 1), mark("rope"))

    def test_commands_with_one_thing(self):
        things = [Thing("torch", ("torch",), "lamp", "hall"), Thing("coin", ("coin",), "plain", "hall")]
        world = self.world(things=things)
        self.matter(world, Marked("torch", 1), at("me", "torch") + mark("torch"))
        self.matter(world, At("torch", "me"), at("me", "torch") + mark("torch"))
        self.matter(world, At("coin", "me"), at("coin", "me", "torch") + mark("torch"))
        self.matter(world, Lit(), at("me", "torch") + mark("torch"))

    def test_commands_with_two_things(self):
        things = [Thing("torch", ("torch",), "lamp", "hall"), Thing("coin", ("coin",), "plain", "hall")]
        verbs = [Verb("tie", (), "two", "to")]
        world = self.world([Rule("tie", [Marked("rope", 1)], [Put("it", 1)], "Tied.")], things=things, verbs=verbs)
        # The coin must be seen where the torch is tied to it.
        self.matter(world, Marked("torch", 1), at("coin", "me", "torch") + mark("rope", "torch"))
        world = self.world([Rule("tie", [Has("other")], [Put("bell", 1)], "Tied.")], things=things, verbs=verbs)
        self.matter(world, Marked("bell", 1), at("coin", "me", "torch") + mark("bell", "torch"))
        self.matter(world, Marked("torch", 1), at("me", "torch") + mark("torch"))

    def test_moves_from_thing_to_thing(self):
        things = [Thing("bag", ("bag",), "box", "hall"), Thing("coin", ("coin",), "plain", "hall")]
        verbs = [Verb("tie", (), "two", "to")]
        for deed in (Move("it", "other"), Move("other", "it"), Move("other", "here"), Move("it", "hall")):
            world = self.world([Rule("tie", [Marked("rope", 1)], [deed], "Tied.")], things=things, verbs=verbs)
            self.matter(world, At("coin", "me"), at("bag", "coin", "me") + mark("bag", "rope"))
        # Nothing goes into itself, so nothing is changed.
        world = self.world([Rule("tie", [Marked("rope", 1)], [Move("it", "it")], "Tied.")], things=things, verbs=verbs)
        self.matter(world, At("coin", "me"), at("bag", "coin", "me") + mark("bag"))

    def test_sorted_whatever_the_order_of_things(self):
        things = [Thing("tin", ("tin",), "box", "hall"), Thing("bag", ("bag",), "box", "tin")]
        self.matter(self.world(things=things), At("tin", "me"), at("bag", "me", "tin") + mark("bag", "tin"))


class Closed(unittest.TestCase):
    def test_lists_with_more(self):
        world = cellar_world()
        self.assertEqual(matters(world, Marked("tide", 3)), mark("tide"))
        self.assertIs(is_closed(world, Marked("tide", 3), mark("door", "tide")), True)
        self.assertIs(is_closed(world, Marked("tide", 3), at("me") + mark("tide")), False)
        self.assertIs(is_closed(world, Marked("tide", 3), at("me") + mark("door", "tide")), True)
        self.assertIs(is_closed(world, Marked("tide", 3), at("coin") + mark("tide")), False)
        self.assertIs(is_closed(world, Marked("tide", 3), []), False)
        self.assertIs(is_closed(world, Kind("coin", "box"), []), True)

    def test_in_any_order_and_more_than_once(self):
        world = cellar_world()
        wish = At("me", "cellar")
        self.assertIs(is_closed(world, wish, mark("door") + at("me")), True)
        self.assertIs(is_closed(world, wish, mark("door") + at("me") + mark("door")), True)

    def test_the_list_handed_in_stays(self):
        world = cellar_world()
        parts = mark("tide", "door") + at("coin", "me")
        ahead = list(parts)
        is_closed(world, Has("coin"), parts)
        fold(first_stand(world), parts)
        self.assertEqual(parts, ahead)

    def test_a_list_told_is_the_askers_own(self):
        world = cellar_world()
        told = matters(world, Has("coin"))
        expected = list(told)
        told.clear()
        self.assertEqual(matters(world, Has("coin")), expected)

    def test_lists_of_rules_changed_later(self):
        tests = [Marked("tide", 2)]
        rule = Rule("sing", tests, [Put("door", 1)], "La.")
        world = cellar_world(rules=[rule])
        tests.append(Has("coin"))
        rule.tests.append(Has("coin"))
        rule.deeds.clear()
        self.assertEqual(matters(world, Marked("door", 1)), mark("door", "tide"))


def needed(world, wish, parts):
    """What a list that holds these parts must have, word for word as point 30 says it."""
    found = set(wish.reads(world, None, None))
    for verb, first, second in commands(world):
        form = world.verb_of(verb).form
        it, other = (None, None) if form == "way" else (first, second)
        rules = world.rules_of(verb)
        such = [number for number, rule in enumerate(rules)
                if {deed.change(world, it, other) for deed in rule.deeds} & set(parts)]
        if such:
            for number, rule in enumerate(rules):
                if number <= such[-1]:
                    found.update(part for test in rule.tests for part in test.reads(world, it, other))
                if number in such:
                    found.update(part for deed in rule.deeds for part in deed.reads(world, it, other))
            found.update(part for name in (it, other) if name for part in Seen(name).reads(world, None, None))
    return found


def closed_from(world, wish, parts):
    """The least closed list that has these parts, too."""
    parts = set(parts)
    while not needed(world, wish, parts) <= parts:
        parts |= needed(world, wish, parts)
    return sorted(parts)


class Drawn(unittest.TestCase):
    def test_the_least_closed_list(self):
        draw = random.Random(5)
        for number, world in enumerate(drawn_worlds(21, 60)):
            for wish in drawn_wishes(world, number, 4):
                parts = set(closed_from(world, wish, []))
                self.assertEqual(matters(world, wish), sorted(parts))
                for count in range(5):
                    some = draw.sample(world.parts(), draw.randint(0, len(world.parts())))
                    for tried in (some, sorted(set(some) | parts)):
                        closed = needed(world, wish, tried) <= set(tried)
                        self.assertIs(is_closed(world, wish, tried), closed)

    def test_folding_loses_nothing(self):
        draw = random.Random(8)
        for number, world in enumerate(drawn_worlds(33, 60)):
            for wish in drawn_wishes(world, number, 3):
                more = closed_from(world, wish, draw.sample(world.parts(), 1))
                self.assertIs(is_closed(world, wish, more), True)
                for parts in (matters(world, wish), more):
                    for stand in drawn_stands(world, number, 3):
                        self.go_alike(world, wish, parts, stand, self.with_the_same_fold(draw, world, parts, stand))
                        self.go_alike(world, wish, parts, stand, lifted(world, fold(stand, parts)))

    def with_the_same_fold(self, draw, world, parts, stand):
        for count in range(20):
            other = tuple((part, value if part in parts else drawn_value(draw, world, part)) for part, value in stand)
            if is_stand(world, other):
                return other
        return stand

    def go_alike(self, world, wish, parts, stand, other):
        self.assertIs(is_stand(world, other), True)
        self.assertEqual(fold(stand, parts), fold(other, parts))
        self.assertEqual(wish.holds(world, stand, None), wish.holds(world, other, None))
        for command in commands(world):
            ahead, behind = step(world, stand, command)[1], step(world, other, command)[1]
            self.assertEqual(fold(ahead, parts), fold(behind, parts), command)


class Folds(unittest.TestCase):
    def setUp(self):
        self.world = cellar_world()
        self.stand = stand_where(self.world, {"coin": "chest", "me": "cellar"}, {"tide": 3, "door": 1})

    def test_by_no_parts(self):
        self.assertEqual(fold(self.stand, []), ())
        self.assertEqual(lifted(self.world, ()), first_stand(self.world))

    def test_by_all(self):
        self.assertEqual(fold(self.stand, self.world.parts()), self.stand)
        self.assertEqual(lifted(self.world, self.stand), self.stand)

    def test_by_some(self):
        folded = fold(self.stand, at("coin", "me") + mark("tide"))
        self.assertEqual(folded, ((("at", "coin"), "chest"), (("at", "me"), "cellar"), (("mark", "tide"), 3)))
        self.assertIs(folded.__class__, tuple)
        self.assertEqual(lifted(self.world, folded),
                         stand_where(self.world, {"coin": "chest", "me": "cellar"}, {"tide": 3}))
        self.assertEqual(fold(self.stand, mark("bag")), ((("mark", "bag"), 0),))

    def test_in_the_order_of_the_stand(self):
        parts = mark("tide") + at("me", "coin")
        self.assertEqual(fold(self.stand, parts), fold(self.stand, sorted(parts)))
        self.assertEqual(fold(self.stand, parts + parts), fold(self.stand, parts))

    def test_lifted_by_the_first_stand(self):
        for stand in random_stands(self.world, 30):
            for parts in (at("coin", "me"), mark("tide", "bag"), at("tin") + mark("torch"), [], self.world.parts()):
                expected = tuple((part, value if part in parts else dict(first_stand(self.world))[part])
                                 for part, value in stand)
                self.assertEqual(lifted(self.world, fold(stand, parts)), expected)
                self.assertEqual(fold(expected, parts), fold(stand, parts))


if __name__ == "__main__":
    unittest.main()
