"""Points 4, 21, 22 and 23: commands, and what comes of them."""

import random
import unittest

from cellar import bare_world, cellar_world, random_stands, stand_where
from strange import strange_values
from tellworld.asks import At, Both, Has, Kind, Lit, Marked, Not, Seen, Word
from tellworld.deeds import Move, Put
from tellworld.errors import NoCommand
from tellworld.rules import Rule
from tellworld.seeing import seen
from tellworld.stands import first_stand, is_stand
from tellworld.steps import check_command, commands, step
from tellworld.things import Thing, Verb

THINGS = ["tin", "chest", "bag", "torch", "coin", "altar"]


class Commands(unittest.TestCase):
    def test_whole(self):
        one = [(verb, name, None) for verb in ("take", "drop", "open", "shut", "light", "douse") for name in THINGS]
        self.assertEqual(
            commands(cellar_world()),
            [("rub", name, None) for name in THINGS]
            + [("tie", first, second) for first in THINGS for second in THINGS]
            + [("climb", "down", None), ("climb", "up", None)]
            + [("sing", None, None)]
            + one
            + [("put", first, second) for first in THINGS for second in THINGS]
            + [("go", "down", None), ("go", "up", None)]
            + [("wait", None, None)],
        )

    def test_least(self):
        world = bare_world([Thing("den", ("den",), "room"), Thing("i", ("i",), "you", "den")])
        self.assertEqual(commands(world), [("wait", None, None)])

    def test_words_of_ways_sorted_each_once(self):
        ways = [("hall", "up", "cellar", None), ("cellar", "east", "hall", None), ("cellar", "up", "hall", None)]
        told = [command for command in commands(cellar_world(ways=ways)) if command[0] == "go"]
        self.assertEqual(told, [("go", "east", None), ("go", "up", None)])

    def test_each_once_and_each_is_one(self):
        world = cellar_world()
        told = commands(world)
        self.assertEqual(len(told), len(set(told)))
        for command in told:
            self.assertIsNone(check_command(world, command))

    def test_of_two_perhaps_the_same(self):
        self.assertIn(("put", "chest", "chest"), commands(cellar_world()))

    def test_told_list_is_the_askers_own(self):
        world = cellar_world()
        ahead = commands(world)
        commands(world).clear()
        self.assertEqual(commands(world), ahead)


class NoCommands(unittest.TestCase):
    def refused(self, command, world=None):
        world = world or cellar_world()
        stand = first_stand(world)
        for ask in (lambda: check_command(world, command), lambda: step(world, stand, command)):
            with self.subTest(command=repr(command)):
                with self.assertRaises(NoCommand) as taken:
                    ask()
                self.assertIs(taken.exception.__class__, NoCommand)
                self.assertEqual(vars(taken.exception), {})

    def let_by(self, command):
        with self.subTest(command=command):
            self.assertIsNone(check_command(cellar_world(), command))

    def test_verb_that_is_none_by_its_name(self):
        self.let_by(("tie", "coin", "tin"))
        for verb in ("bind", "pull", "", "Tie", "to", "it", "coin", "up", "the", "undo", "restart"):
            for rest in ((None, None), ("coin", None), ("coin", "tin"), ("up", None)):
                self.refused((verb,) + rest)

    def test_form_alone(self):
        for verb in ("sing", "wait"):
            self.let_by((verb, None, None))
            for rest in (("coin", None), (None, "coin"), ("coin", "tin"), ("up", None), ("", None), (False, None)):
                self.refused((verb,) + rest)

    def test_form_one(self):
        for verb in ("rub", "take"):
            for name in THINGS:
                self.let_by((verb, name, None))
            for rest in ((None, None), ("coin", "tin"), (None, "coin"), ("up", None), ("coin", ""), ("coin", False)):
                self.refused((verb,) + rest)

    def test_form_two(self):
        for verb in ("tie", "put"):
            self.let_by((verb, "coin", "tin"))
            self.let_by((verb, "tin", "tin"))
            for rest in ((None, None), ("coin", None), (None, "tin"), ("coin", "up"), ("up", "coin"), ("coin", "")):
                self.refused((verb,) + rest)

    def test_form_way(self):
        for verb in ("climb", "go"):
            self.let_by((verb, "up", None))
            for rest in ((None, None), ("north", None), ("coin", None), ("up", "down"), ("up", "coin"), (None, "up"),
                         ("", None), ("hall", None), ("cellar", None), ("up", ""), ("up", False)):
                self.refused((verb,) + rest)

    def test_ways_words_where_there_are_no_ways(self):
        self.refused(("go", "up", None), cellar_world(ways=[]))

    def test_rooms_and_you_are_no_things_of_commands(self):
        for name in ("hall", "cellar", "me"):
            self.refused(("take", name, None))
            self.refused(("put", name, "tin"))
            self.refused(("put", "coin", name))

    def test_names_that_there_are_none_of(self):
        for name in ("nothing", "tide", "door", "oak", "it", "other", "here", "Coin", " coin", "", "you"):
            self.refused(("take", name, None))
            self.refused(("put", name, "tin"))
            self.refused(("put", "coin", name))

    def test_other_tuples(self):
        for command in ((), ("wait",), ("wait", None), ("wait", None, None, None), ("take", "coin"), (None,) * 3,
                        (("wait", None, None),), ("coin", "take", None), ("put", "coin", "in", "tin")):
            self.refused(command)

    def test_lists_and_texts(self):
        for command in (["take", "coin", None], ["wait", None, None], "wait", "take coin", "abc", None, ""):
            self.refused(command)

    def test_of_any_kind(self):
        for thing in strange_values():
            self.refused(thing)
            self.refused((thing, None, None))
            self.refused((thing, "coin", None))
            self.refused((thing, thing, thing))
            self.refused(("take", thing, None))
            self.refused(("go", thing, None))
            self.refused(("put", thing, "tin"))
            self.refused(("put", "coin", thing))
            if thing is not None:
                self.refused(("take", "coin", thing))
                self.refused(("go", "up", thing))
                self.refused(("wait", thing, None))
                self.refused(("wait", None, thing))

    def test_refused_ahead_of_all_else(self):
        world = cellar_world()
        with self.assertRaises(NoCommand):
            step(world, stand_where(world, {"me": "cellar"}), ("put", "tin", "hall"))


class StepCase(unittest.TestCase):
    def answers(self, world, stand, command, answer, at=None, **marks):
        """The answer of a step, and the stand behind, which differs from the one ahead by at and marks alone."""
        with self.subTest(command=command):
            told = step(world, stand, command)
            wanted = dict(stand)
            wanted.update({("at", name): place for name, place in (at or {}).items()})
            wanted.update({("mark", name): value for name, value in marks.items()})
            self.assertEqual(told, (answer, tuple(sorted(wanted.items()))))
            self.assertIsInstance(told, tuple)
            self.assertIsInstance(told[0], tuple)
            self.assertIs(is_stand(world, told[1]), True)
            return told[1]

    def ruled(self, *rules):
        return cellar_world(rules=list(rules))


class Unseen(StepCase):
    def test_first(self):
        world = cellar_world()
        stand = first_stand(world)
        for name in ("tin", "torch", "coin", "altar"):
            for verb in ("take", "drop", "open", "rub"):
                self.answers(world, stand, (verb, name, None), ("unseen", name))

    def test_first_ahead_of_the_second(self):
        world = cellar_world()
        stand = first_stand(world)
        self.answers(world, stand, ("put", "tin", "coin"), ("unseen", "tin"))
        self.answers(world, stand, ("put", "coin", "tin"), ("unseen", "coin"))
        self.answers(world, stand, ("put", "bag", "tin"), ("unseen", "tin"))
        self.answers(world, stand, ("put", "tin", "bag"), ("unseen", "tin"))
        self.answers(world, stand, ("put", "tin", "tin"), ("unseen", "tin"))

    def test_ahead_of_the_rules(self):
        world = self.ruled(Rule("rub", [], [Put("tide", 3)], "Rubbed."), Rule("tie", [], [], "Tied."))
        stand = first_stand(world)
        self.answers(world, stand, ("rub", "coin", None), ("unseen", "coin"))
        self.answers(world, stand, ("tie", "bag", "altar"), ("unseen", "altar"))
        self.answers(world, stand, ("rub", "bag", None), ("told", "Rubbed."), tide=3)

    def test_in_the_dark(self):
        world = cellar_world()
        dark = stand_where(world, {"me": "cellar"})
        self.answers(world, dark, ("open", "tin", None), ("unseen", "tin"))
        self.answers(world, dark, ("open", "bag", None), ("told", "Opened."), bag=1)
        lit = stand_where(world, {"me": "cellar", "torch": "me"}, {"torch": 1})
        self.answers(world, lit, ("open", "tin", None), ("told", "Opened."), tin=1)

    def test_words_of_ways_are_not_looked_for(self):
        world = cellar_world(things=[
            Thing("hall", ("hall",), "room"), Thing("cellar", ("cellar",), "room"), Thing("me", ("me",), "you", "hall"),
            Thing("up", ("gem",), "plain", "cellar"),
        ])
        self.answers(world, first_stand(world), ("go", "up", None), ("refused", "No way there."))
        self.answers(world, first_stand(world), ("take", "up", None), ("unseen", "up"))


class CommonRules(StepCase):
    def setUp(self):
        self.world = cellar_world()
        self.first = first_stand(self.world)

    def test_take(self):
        stand = stand_where(self.world, {"me": "cellar", "torch": "me"}, {"torch": 1, "bag": 1})
        self.answers(self.world, stand, ("take", "altar", None), ("refused", "That stays."))
        self.answers(self.world, stand, ("take", "torch", None), ("refused", "You have that."))
        self.answers(self.world, stand, ("take", "tin", None), ("told", "Taken."), {"tin": "me"})
        # What is in a box with you isn't right at you.
        self.answers(self.world, stand, ("take", "coin", None), ("told", "Taken."), {"coin": "me"})

    def test_drop(self):
        stand = stand_where(self.world, None, {"bag": 1})
        self.answers(self.world, stand, ("drop", "bag", None), ("told", "Dropped."), {"bag": "hall"})
        self.answers(self.world, stand, ("drop", "coin", None), ("told", "Dropped."), {"coin": "hall"})
        self.answers(self.world, stand, ("drop", "chest", None), ("refused", "You lack that."))

    def test_put(self):
        stand = stand_where(self.world, {"coin": "me"}, {"chest": 1})
        self.answers(self.world, stand, ("put", "coin", "chest"), ("told", "Done."), {"coin": "chest"})
        self.answers(self.world, stand, ("put", "chest", "bag"), ("refused", "You lack that."))
        self.answers(self.world, stand, ("put", "bag", "torch"), ("refused", "It holds nothing."))
        self.answers(self.world, stand, ("put", "coin", "bag"), ("refused", "It is shut."))
        self.answers(self.world, stand, ("put", "coin", "coin"), ("refused", "It holds nothing."))

    def test_put_into_itself_or_what_is_within(self):
        stand = stand_where(self.world, {"chest": "bag"}, {"bag": 1, "chest": 1})
        self.answers(self.world, stand, ("put", "bag", "bag"), ("refused", "That cannot be."))
        self.answers(self.world, stand, ("put", "bag", "chest"), ("refused", "That cannot be."))
        self.answers(self.world, stand, ("put", "chest", "bag"), ("told", "Done."))

    def test_open_and_shut(self):
        self.answers(self.world, self.first, ("open", "chest", None), ("told", "Opened."), chest=1)
        self.answers(self.world, self.first, ("shut", "chest", None), ("refused", "It is shut."))
        stand = stand_where(self.world, {"coin": "me"}, {"chest": 1})
        self.answers(self.world, stand, ("open", "chest", None), ("refused", "It is open."))
        self.answers(self.world, stand, ("shut", "chest", None), ("told", "Shut."), chest=0)
        for verb in ("open", "shut"):
            for name in ("coin", "torch"):
                self.answers(self.world, stand, (verb, name, None), ("refused", "It has no lid."))

    def test_light_and_douse(self):
        stand = stand_where(self.world, {"torch": "me", "coin": "me"})
        self.answers(self.world, stand, ("light", "torch", None), ("told", "Lit."), torch=1)
        self.answers(self.world, stand, ("douse", "torch", None), ("refused", "It is out."))
        stand = stand_where(self.world, {"torch": "me", "coin": "me"}, {"torch": 1})
        self.answers(self.world, stand, ("light", "torch", None), ("refused", "It is lit."))
        self.answers(self.world, stand, ("douse", "torch", None), ("told", "Doused."), torch=0)
        for verb in ("light", "douse"):
            for name in ("coin", "chest", "bag"):
                self.answers(self.world, stand, (verb, name, None), ("refused", "It burns not."))

    def test_go(self):
        self.answers(self.world, self.first, ("go", "down", None), ("refused", "No way there."))
        self.answers(self.world, self.first, ("go", "up", None), ("refused", "No way there."))
        stand = stand_where(self.world, None, {"door": 1})
        self.answers(self.world, stand, ("go", "down", None), ("told", "You go."), {"me": "cellar"})
        stand = stand_where(self.world, {"me": "cellar"})
        self.answers(self.world, stand, ("go", "up", None), ("told", "You go."), {"me": "hall"})
        self.answers(self.world, stand, ("go", "down", None), ("refused", "No way there."))

    def test_go_where_the_mark_is_any_but_nought(self):
        world = cellar_world(ways=[("hall", "down", "cellar", "tide"), ("hall", "in", "hall", "chest")])
        for value in range(4):
            stand = stand_where(world, None, {"tide": value})
            if value == 0:
                self.answers(world, stand, ("go", "down", None), ("refused", "No way there."))
            else:
                self.answers(world, stand, ("go", "down", None), ("told", "You go."), {"me": "cellar"})
        self.answers(world, first_stand(world), ("go", "in", None), ("refused", "No way there."))
        self.answers(world, stand_where(world, None, {"chest": 1}), ("go", "in", None), ("told", "You go."))

    def test_wait(self):
        self.answers(self.world, self.first, ("wait", None, None), ("told", "Time goes by."))

    def test_own_verbs_without_rules(self):
        for command in (("rub", "bag", None), ("tie", "bag", "chest"), ("climb", "up", None), ("sing", None, None)):
            self.answers(self.world, self.first, command, ("refused", "Nothing comes of it."))


class OwnRules(StepCase):
    def test_the_first_that_fits(self):
        world = self.ruled(
            Rule("rub", [Kind("it", "lamp")], [Put("tide", 0)], "A lamp."),
            Rule("rub", [Kind("it", "box"), Has("it")], [Put("tide", 1)], "A box of yours."),
            Rule("rub", [Kind("it", "box")], [Put("tide", 3)], "A box."),
            Rule("rub", [Marked("door", 0)], [], "Behind.", True),
        )
        stand = stand_where(world, {"coin": "me"}, {"chest": 1})
        self.answers(world, stand, ("rub", "torch", None), ("told", "A lamp."), tide=0)
        self.answers(world, stand, ("rub", "bag", None), ("told", "A box of yours."), tide=1)
        self.answers(world, stand, ("rub", "chest", None), ("told", "A box."), tide=3)
        self.answers(world, stand, ("rub", "coin", None), ("refused", "Behind."))

    def test_none_fits(self):
        world = self.ruled(Rule("sing", [Marked("door", 1)], [], "Sung."), Rule("rub", [], [], "Rubbed."))
        self.answers(world, first_stand(world), ("sing", None, None), ("refused", "Nothing comes of it."))
        self.answers(world, stand_where(world, None, {"door": 1}), ("sing", None, None), ("told", "Sung."))

    def test_all_tests_must_hold(self):
        tests = [Lit(), Has("bag"), At("me", "hall"), Not(Seen("coin")), Both(Marked("tide", 2), Marked("door", 0))]
        world = self.ruled(Rule("sing", tests, [], "Sung."))
        self.answers(world, first_stand(world), ("sing", None, None), ("told", "Sung."))
        for at, marks in (
            ({"bag": "hall"}, {}), ({"me": "cellar"}, {}), ({}, {"bag": 1}), ({}, {"tide": 1}), ({}, {"door": 1}),
        ):
            stand = stand_where(world, at, marks)
            self.answers(world, stand, ("sing", None, None), ("refused", "Nothing comes of it."))

    def test_ahead_of_the_common_ones(self):
        world = self.ruled(
            Rule("take", [Kind("it", "fixed"), Has("tin")], [Move("it", "me")], "You lift it."),
            Rule("take", [Kind("it", "box")], [], "Too heavy.", True),
            Rule("wait", [], [Put("tide", 3)], "The tide comes."),
            Rule("go", [Word("down")], [], "You dare not.", True),
        )
        stand = stand_where(world, {"me": "cellar", "torch": "me"}, {"torch": 1})
        self.answers(world, stand, ("take", "altar", None), ("refused", "That stays."))
        self.answers(world, stand, ("take", "tin", None), ("refused", "Too heavy."))
        self.answers(world, stand, ("wait", None, None), ("told", "The tide comes."), tide=3)
        self.answers(world, stand, ("go", "down", None), ("refused", "You dare not."))
        self.answers(world, stand, ("go", "up", None), ("told", "You go."), {"me": "hall"})
        stand = stand_where(world, {"me": "cellar", "torch": "me", "tin": "me"}, {"torch": 1})
        self.answers(world, stand, ("take", "altar", None), ("told", "You lift it."), {"altar": "me"})

    def test_told_without_deeds(self):
        world = self.ruled(Rule("sing", [], [], "La."))
        self.answers(world, first_stand(world), ("sing", None, None), ("told", "La."))

    def test_words_of_ways(self):
        world = self.ruled(Rule("climb", [Word("up")], [Move("me", "cellar")], "Up."))
        self.answers(world, first_stand(world), ("climb", "up", None), ("told", "Up."), {"me": "cellar"})
        self.answers(world, first_stand(world), ("climb", "down", None), ("refused", "Nothing comes of it."))

    def test_it_and_other(self):
        world = self.ruled(Rule("tie", [At("other", "here"), Not(At("it", "here"))], [Move("it", "other")], "Tied."))
        self.answers(world, first_stand(world), ("tie", "bag", "chest"), ("told", "Tied."), {"bag": "chest"})
        self.answers(world, first_stand(world), ("tie", "chest", "bag"), ("refused", "Nothing comes of it."))


class Deeds(StepCase):
    def test_in_order(self):
        world = self.ruled(Rule("sing", [], [Put("tide", 0), Put("tide", 3), Put("tide", 1), Put("door", 1)], "La."))
        self.answers(world, first_stand(world), ("sing", None, None), ("told", "La."), tide=1, door=1)

    def test_each_sees_what_the_one_ahead_did(self):
        world = self.ruled(Rule("sing", [], [Move("me", "cellar"), Move("coin", "here")], "La."))
        self.answers(world, first_stand(world), ("sing", None, None), ("told", "La."), {"me": "cellar", "coin": "cellar"})
        world = self.ruled(Rule("sing", [], [Move("coin", "here"), Move("me", "cellar")], "La."))
        self.answers(world, first_stand(world), ("sing", None, None), ("told", "La."), {"me": "cellar", "coin": "hall"})

    def test_a_move_that_the_one_ahead_lets_be(self):
        stand = {"chest": "bag"}
        away = Rule("sing", [], [Move("chest", "hall"), Move("bag", "chest")], "La.")
        world = self.ruled(away)
        self.answers(world, stand_where(world, stand), ("sing", None, None), ("told", "La."),
                     {"chest": "hall", "bag": "chest"})
        world = self.ruled(Rule("sing", [], [Move("bag", "chest"), Move("chest", "hall")], "La."))
        self.answers(world, stand_where(world, stand), ("sing", None, None), ("refused", "That cannot be."))

    def test_a_move_that_the_one_ahead_bars(self):
        world = self.ruled(Rule("sing", [], [Move("chest", "bag"), Move("bag", "chest")], "La."))
        self.answers(world, first_stand(world), ("sing", None, None), ("refused", "That cannot be."))

    def test_where_one_cannot_be_done_none_is(self):
        world = self.ruled(
            Rule("rub", [], [Put("tide", 3), Move("me", "cellar"), Put("it", 2), Put("door", 1)], "Rubbed."),
            Rule("rub", [], [], "Behind."),
        )
        self.answers(world, first_stand(world), ("rub", "bag", None), ("refused", "That cannot be."))

    def test_put_above_the_most_or_without_a_mark(self):
        world = self.ruled(Rule("rub", [], [Put("it", 1)], "Rubbed."), Rule("tie", [], [Put("other", 3)], "Tied."))
        stand = stand_where(world, {"coin": "me"})
        self.answers(world, stand, ("rub", "bag", None), ("told", "Rubbed."), bag=1)
        self.answers(world, stand, ("rub", "coin", None), ("refused", "That cannot be."))
        self.answers(world, stand, ("tie", "coin", "bag"), ("refused", "That cannot be."))

    def test_move_to_what_cannot_hold(self):
        world = self.ruled(Rule("tie", [], [Move("it", "other")], "Tied."))
        stand = stand_where(world, {"coin": "me"})
        self.answers(world, stand, ("tie", "bag", "coin"), ("refused", "That cannot be."))
        self.answers(world, stand, ("tie", "coin", "bag"), ("told", "Tied."), {"coin": "bag"})
        self.answers(world, stand, ("tie", "bag", "bag"), ("refused", "That cannot be."))


class Walks(unittest.TestCase):
    RULES = (
        Rule("rub", [Kind("it", "box"), Seen("torch")], [Move("torch", "it"), Put("tide", 1)], "In."),
        Rule("rub", [], [Move("it", "chest"), Move("chest", "tin"), Put("it", 1)], "Rubbed."),
        Rule("tie", [Not(Has("other"))], [Move("it", "other"), Move("other", "me")], "Tied."),
        Rule("tie", [], [Move("other", "it"), Put("other", 0)], "Tied back."),
        Rule("sing", [], [Put("door", 1), Move("bag", "here"), Move("tin", "bag")], "La."),
        Rule("climb", [Marked("door", 1)], [Move("me", "cellar"), Move("tin", "here")], "Down."),
        Rule("climb", [Word("up")], [Move("me", "hall")], "Up."),
    )

    def answer_is_right(self, world, stand, command):
        answer, behind = step(world, stand, command)
        self.assertEqual(step(world, stand, command), (answer, behind))
        self.assertIs(is_stand(world, behind), True)
        self.assertIn(answer[0], ("told", "refused", "unseen"))
        self.assertEqual(len(answer), 2)
        if answer[0] != "told":
            self.assertEqual(behind, stand)
        things = [] if command[0] in ("go", "climb") else [name for name in command[1:] if name is not None]
        hidden = [name for name in things if name not in seen(world, stand)]
        self.assertEqual(answer == ("unseen", hidden[0]) if hidden else answer[0] != "unseen", True)
        return behind

    def test_every_command_at_many_stands(self):
        world = cellar_world(rules=list(self.RULES))
        for stand in random_stands(world, 30):
            for command in commands(world):
                self.answer_is_right(world, stand, command)

    def test_long_walks(self):
        world = cellar_world(rules=list(self.RULES))
        draw = random.Random(3)
        every = commands(world)
        for walk in range(20):
            stand = first_stand(world)
            for count in range(60):
                stand = self.answer_is_right(world, stand, draw.choice(every))

    def test_stands_and_commands_handed_in_stay(self):
        world = cellar_world(rules=list(self.RULES))
        stand = first_stand(world)
        ahead = tuple(stand)
        for command in commands(world):
            step(world, stand, command)
        self.assertEqual(stand, ahead)

    def test_a_verb_of_many_names_goes_by_its_name(self):
        world = cellar_world(verbs=[Verb("pull", ("tug", "drag"))], rules=[Rule("pull", [], [], "Pulled.")])
        self.assertEqual(step(world, first_stand(world), ("pull", "bag", None))[0], ("told", "Pulled."))
        for name in ("tug", "drag"):
            with self.assertRaises(NoCommand):
                step(world, first_stand(world), (name, "bag", None))


if __name__ == "__main__":
    unittest.main()
