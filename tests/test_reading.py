"""Points 24 and 25: rows read to commands, and the own row of a command."""

import unittest

from cellar import cellar_world, random_stands, stand_where
from drawn import drawn_stands, drawn_worlds
from parlour import parlour_world
from strange import strange_values
from tellworld.errors import NoCommand
from tellworld.reading import own_row, read
from tellworld.seeing import seen
from tellworld.stands import first_stand
from tellworld.steps import commands
from tellworld.things import Thing, Verb
from tellworld.worlds import World


class ReadCase(unittest.TestCase):
    def setUp(self):
        self.world = parlour_world()
        self.first = first_stand(self.world)

    def reads(self, row, *answer, stand=None, world=None):
        with self.subTest(row=row):
            told = read(world or self.world, stand or self.first, row)
            self.assertEqual(told, answer)
            self.assertIs(told.__class__, tuple)

    def commands(self, row, *command, stand=None, world=None):
        self.reads(row, "command", command, stand=stand, world=world)


class Verbs(ReadCase):
    def test_no_verb(self):
        self.reads("jump", "noverb", "jump")
        self.reads("jump up", "noverb", "jump")
        self.reads("ball rub", "noverb", "ball")
        self.reads("ball", "noverb", "ball")
        self.reads("undo", "noverb", "undo")
        self.reads("restart now", "noverb", "restart")
        self.reads("in", "noverb", "in")
        self.reads("up", "noverb", "up")
        self.reads("sphere", "noverb", "sphere")
        self.reads("ru", "noverb", "ru")
        self.reads("rubs", "noverb", "rubs")
        self.reads("Rub ball", "noverb", "Rub")

    def test_no_words(self):
        for row in ("", " ", "     ", "the", "a", "  the a the "):
            self.reads(row, "noverb", "")

    def test_articles_ahead_of_the_verb(self):
        self.reads("the jump", "noverb", "jump")
        self.commands("  the a  sing", "sing", None, None)
        self.reads("an sing", "noverb", "an")

    def test_other_names(self):
        for name in ("rub", "stroke", "pat"):
            self.commands(name + " gem", "rub", "ruby", None)
        for name in ("climb", "scale"):
            self.commands(name + " up", "climb", "up", None)
            self.reads(name, "noform", "climb")
            self.reads(name + " sideways", "noway", "sideways")
        for name in ("sing", "hum"):
            self.commands(name, "sing", None, None)
            self.reads(name + " ball", "noform", "sing")
        for name in ("tie", "bind"):
            self.commands(name + " gem to red ball", "tie", "ruby", "sphere")
            self.reads(name + " gem", "noform", "tie")


class Forms(ReadCase):
    def test_alone(self):
        self.commands("wait", "wait", None, None)
        self.commands(" the wait a ", "wait", None, None)
        for row in ("wait here", "wait ball", "sing up", "sing sing", "wait wait wait"):
            self.reads(row, "noform", row.split(" ")[0])

    def test_one(self):
        self.reads("rub", "noform", "rub")
        self.reads("rub the", "noform", "rub")
        self.reads("pat a the ", "noform", "rub")
        self.reads("take", "noform", "take")
        self.commands("rub gem", "rub", "ruby", None)

    def test_two(self):
        for row in (
            "put", "put gem", "put in", "put gem in", "put in chest", "put gem chest", "put in in", "put gem in the",
            "put the in chest", "put in gem in chest", "put gem to chest", "put in in in", "put the gem a in the a",
        ):
            self.reads(row, "noform", "put")
        for row in ("tie", "tie gem to", "tie to gem", "tie gem in ball", "tie to gem to ball", "bind to"):
            self.reads(row, "noform", "tie")
        self.commands("put gem in red chest", "put", "ruby", "trunk")
        self.commands("tie gem to red chest", "tie", "ruby", "trunk")

    def test_the_first_joining_word_parts(self):
        self.reads("put gem in chest in ball", "none", ("chest", "in", "ball"))
        self.reads("put gem in in chest", "none", ("in", "chest"))
        self.reads("put gem in red chest in", "none", ("red", "chest", "in"))
        self.reads("put ball in x in y", "which", ("ball",), ("globe", "sphere"))
        self.reads("put in ball in x", "noform", "put")
        self.reads("tie gem in ball to red chest", "none", ("gem", "in", "ball"))
        self.reads("tie gem to red chest in", "none", ("red", "chest", "in"))

    def test_joining_words_mean_nothing_in_other_forms(self):
        self.reads("rub gem in chest", "none", ("gem", "in", "chest"))
        self.reads("rub in", "none", ("in",))
        self.reads("go in", "noway", "in")

    def test_way(self):
        for row in ("go", "go the", "go a a", "climb"):
            self.reads(row, "noform", row.split(" ")[0])
        for row in ("go up down", "go up up", "go red ball", "go the up down", "climb up ball"):
            self.reads(row, "noform", row.split(" ")[0])
        self.commands("go up", "go", "up", None)
        self.commands("go the up", "go", "up", None)
        # It is a way of the world, though none leads from here.
        self.commands("go down", "go", "down", None)

    def test_no_way(self):
        self.reads("go north", "noway", "north")
        self.reads("go ball", "noway", "ball")
        self.reads("climb me", "noway", "me")
        self.reads("go go", "noway", "go")
        self.reads("go undo", "noway", "undo")

    def test_no_way_in_a_world_without_ways(self):
        world = World([Thing("hall", ("hall",), "room"), Thing("me", ("me",), "you", "hall")], [], [], [], [], [])
        self.reads("go up", "noway", "up", world=world, stand=first_stand(world))
        self.reads("take me", "none", ("me",), world=world, stand=first_stand(world))


class Phrases(ReadCase):
    def test_in_any_order_in_part_and_twice(self):
        for row in (
            "rub red small gem", "rub gem small red", "rub small red gem", "rub gem", "rub small gem", "rub red small",
            "rub gem gem", "rub red red small", "rub gem small gem red gem", "rub the red a gem the",
            "  rub   gem  ", "the rub small the red",
        ):
            self.commands(row, "rub", "ruby", None)

    def test_none(self):
        self.reads("rub feather", "none", ("feather",))
        self.reads("rub red feather", "none", ("red", "feather"))
        self.reads("rub red blue", "none", ("red", "blue"))
        self.reads("rub gem ball", "none", ("gem", "ball"))
        self.reads("rub the red a blue red the", "none", ("red", "blue", "red"))

    def test_names_are_no_words(self):
        for name in ("ruby", "sphere", "trunk"):
            self.reads("rub " + name, "none", (name,))

    def test_which(self):
        self.reads("rub ball", "which", ("ball",), ("globe", "sphere"))
        self.reads("rub the ball", "which", ("ball",), ("globe", "sphere"))
        self.reads("rub red", "which", ("red",), ("ruby", "sphere", "trunk"))
        self.reads("rub small small", "which", ("small", "small"), ("globe", "ruby"))
        self.reads("take chest", "which", ("chest",), ("case", "trunk"))

    def test_what_is_not_seen_is_not_meant(self):
        self.reads("rub white", "none", ("white",))
        self.reads("rub dust", "none", ("dust",))
        self.reads("rub me", "none", ("me",))
        self.reads("rub parlour", "none", ("parlour",))
        above = stand_where(self.world, {"me": "loft"})
        self.commands("rub ball", "rub", "pearl", None, stand=above)
        self.reads("rub chest", "none", ("chest",), stand=above)
        self.commands("rub red", "rub", "ruby", None, stand=above)
        ajar = stand_where(self.world, None, {"trunk": 1})
        self.commands("rub dust", "rub", "dust", None, stand=ajar)

    def test_in_the_dark(self):
        world = cellar_world()
        stand = stand_where(world, {"me": "cellar"})
        self.reads("take tin", "none", ("tin",), world=world, stand=stand)
        self.commands("take bag", "take", "bag", None, world=world, stand=stand)
        lit = stand_where(world, {"me": "cellar", "torch": "me"}, {"torch": 1})
        self.commands("take tin", "take", "tin", None, world=world, stand=lit)

    def test_rooms_and_you_with_the_words_of_a_thing(self):
        things = [Thing("hall", ("coin",), "room"), Thing("me", ("coin",), "you", "hall"),
                  Thing("penny", ("coin",), "plain", "hall")]
        world = World(things, [], [], [], [], [])
        self.commands("take coin", "take", "penny", None, world=world, stand=first_stand(world))

    def test_the_second(self):
        self.commands("put gem in red chest", "put", "ruby", "trunk")
        self.commands("put gem in the chest blue", "put", "ruby", "case")
        self.commands("put gem in gem", "put", "ruby", "ruby")
        self.reads("put gem in feather", "none", ("feather",))
        self.reads("put gem in the chest", "which", ("chest",), ("case", "trunk"))

    def test_the_first_ahead_of_the_second(self):
        self.reads("put feather in air", "none", ("feather",))
        self.reads("put feather in chest", "none", ("feather",))
        self.reads("put ball in feather", "which", ("ball",), ("globe", "sphere"))
        self.reads("put ball in chest", "which", ("ball",), ("globe", "sphere"))
        self.reads("put chest in ball", "which", ("chest",), ("case", "trunk"))
        self.reads("put feather in chest in ball", "none", ("feather",))

    def test_forms_ahead_of_phrases_and_verbs_ahead_of_forms(self):
        self.reads("put feather", "noform", "put")
        self.reads("jump in", "noverb", "jump")

    def test_words_that_may_be_anything(self):
        self.reads("rub undo", "none", ("undo",))
        self.reads("rub Ball", "none", ("Ball",))
        self.reads("rub take", "none", ("take",))
        self.reads("rub it", "none", ("it",))
        self.reads("rub ball, gem", "none", ("ball,", "gem"))
        self.reads("rub " + "x" * 190, "none", ("x" * 190,))

    def test_nothing_is_changed(self):
        stand = tuple(self.first)
        read(self.world, stand, "take gem")
        self.assertEqual(stand, first_stand(self.world))
        self.commands("take gem", "take", "ruby", None)

    def test_a_joining_word_that_is_a_ways_word(self):
        world = World(
            [Thing("hall", ("hall",), "room"), Thing("me", ("me",), "you", "hall"),
            Thing("cup", ("cup",), "box", "hall")],
            [], [], [("hall", "in", "hall", None)], [Verb("fill", (), "two", "in")], [],
        )
        stand = first_stand(world)
        self.commands("go in", "go", "in", None, world=world, stand=stand)
        self.commands("fill cup in cup", "fill", "cup", "cup", world=world, stand=stand)


class OwnRows(unittest.TestCase):
    def test_of_each_form(self):
        world = parlour_world()
        for command, row in (
            (("wait", None, None), "wait"),
            (("sing", None, None), "sing"),
            (("rub", "ruby", None), "rub red small gem"),
            (("take", "pearl", None), "take white ball"),
            (("put", "ruby", "trunk"), "put red small gem in red chest"),
            (("put", "globe", "globe"), "put blue small ball in blue small ball"),
            (("tie", "case", "dust"), "tie blue chest to grey dust"),
            (("go", "up", None), "go up"),
            (("climb", "down", None), "climb down"),
        ):
            with self.subTest(command=command):
                self.assertEqual(own_row(world, command), row)

    def test_read_where_its_things_are_seen_it_is_the_command(self):
        world = cellar_world()
        for stand in random_stands(world, 40):
            self.is_read_back(world, stand)
        for world in drawn_worlds(5, 20):
            for stand in drawn_stands(world, 5, 3):
                self.is_read_back(world, stand)

    def is_read_back(self, world, stand):
        in_sight = seen(world, stand)
        for command in commands(world):
            form = world.verb_of(command[0]).form
            things = [] if form == "way" else [name for name in command[1:] if name is not None]
            if all(name in in_sight for name in things):
                self.assertEqual(read(world, stand, own_row(world, command)), ("command", command))

    def test_what_is_no_command(self):
        world = parlour_world()
        wrong = [
            (), ("wait",), ("wait", None), ("wait", None, None, None), ["wait", None, None], ("jump", None, None),
            ("hum", None, None), ("stroke", "ruby", None), ("wait", "ruby", None), ("wait", None, "ruby"),
            ("rub", None, None), ("rub", "ruby", "ruby"), ("rub", "me", None), ("rub", "loft", None),
            ("rub", "gem", None), ("rub", ("ruby",), None), ("put", "ruby", None), ("put", None, "ruby"),
            ("put", "ruby", "me"), ("put", "parlour", "trunk"), ("go", None, None), ("go", "in", None),
            ("go", "up", "up"), ("go", "ruby", None), (None, None, None), (1, 2, 3),
        ]
        for thing in wrong + strange_values():
            with self.subTest(thing=repr(thing)):
                with self.assertRaises(NoCommand) as refusal:
                    own_row(world, thing)
                self.assertIs(refusal.exception.__class__, NoCommand)
        for thing in strange_values():
            for command in (
                ("go", thing, None), (thing, "ruby", None), ("put", thing, "ruby"), ("put", "ruby", thing),
                ("rub", thing, None), ("sing", "x", thing), ("rub", thing, thing),
            ):
                with self.subTest(command=repr(command)):
                    self.assertRaises(NoCommand, own_row, world, command)


if __name__ == "__main__":
    unittest.main()
