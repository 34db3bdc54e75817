"""The names, arguments and kinds of the interface; and points 2 and 4 over the whole program."""

import copy
import importlib
import inspect
import unittest

from cellar import cellar_world
from drawn import drawn_stands, drawn_wishes, drawn_worlds
from tellworld import errors
from tellworld.asks import At, Has
from tellworld.folds import fold, is_closed, lifted, matters
from tellworld.judging import judge, left, lost
from tellworld.papers import never_holds, rows_hold
from tellworld.players import Player
from tellworld.reading import own_row, read
from tellworld.search import find
from tellworld.stands import first_stand
from tellworld.steps import commands, step
from tellworld.texts import read_world, world_text
from tellworld.ties import answer_alike, parted, tie_holds

FUNCTIONS = {
    "words": ["is_name(thing)", "is_word(thing)", "words_of(row)"],
    "stands": ["first_stand(world)", "is_stand(world, thing)", "at_of(stand, name)", "mark_of(stand, name)",
               "with_part(stand, part, value)"],
    "seeing": ["holders_of(world, stand, name)", "room_of(world, stand)", "in_open(world, stand, name, holder)",
               "has(world, stand, name)", "is_lit(world, stand)", "is_seen(world, stand, name)", "seen(world, stand)"],
    "asks": ["test_of(told)"],
    "deeds": ["deed_of(told)"],
    "common": ["common_verbs()", "common_rules(you, ways)"],
    "steps": ["commands(world)", "check_command(world, command)", "step(world, stand, command)"],
    "reading": ["read(world, stand, row)", "own_row(world, command)"],
    "folds": ["matters(world, wish)", "is_closed(world, wish, parts)", "fold(stand, parts)", "lifted(world, folded)"],
    "search": ["find(world, stand, wish, most)"],
    "papers": ["never_holds(world, stand, wish, paper)", "rows_hold(world, stand, wish, paper)"],
    "judging": ["left(world, stand, wish, most)", "judge(world, rows, wish, most)", "lost(world, rows, wish, most)"],
    "ties": ["answer_alike(one, stand, other, other_stand)", "parted(one, other, most)", "tie_holds(one, other, pairs)"],
    "texts": ["world_text(world)", "read_world(text)"],
}
ASKED = ["holds(self, world, stand, command)", "reads(self, world, it, other)", "told(self)"]
DONE = ["done(self, world, stand, command)", "reads(self, world, it, other)", "change(self, world, it, other)", "told(self)"]
CLASSES = {
    ("things", "Thing"): ["__init__(self, name, words, kind, start=None)", "can_hold(self)", "has_mark(self)",
                          "is_plainly(self)"],
    ("things", "Mark"): ["__init__(self, name, start, most)"],
    ("things", "Verb"): ["__init__(self, name, others=None, form='one', joining=None)"],
    ("worlds", "World"): [
        "__init__(self, things, marks, dark, ways, verbs, rules)", "names(self)", "thing_of(self, name)",
        "of_kind(self, kind)", "you(self)", "is_dark(self, room)", "most_of(self, name)", "own_marks(self)",
        "own_ways(self)", "own_verbs(self)", "own_rules(self)", "dark_rooms(self)", "way_words(self)", "all_verbs(self)",
        "verb_of(self, word)", "rules_of(self, name)", "parts(self)",
    ],
    ("asks", "At"): ["__init__(self, term, place)"] + ASKED,
    ("asks", "Has"): ["__init__(self, term)"] + ASKED,
    ("asks", "Seen"): ["__init__(self, term)"] + ASKED,
    ("asks", "Marked"): ["__init__(self, term, value)"] + ASKED,
    ("asks", "Kind"): ["__init__(self, term, kind)"] + ASKED,
    ("asks", "Word"): ["__init__(self, word)"] + ASKED,
    ("asks", "Lit"): ASKED,
    ("asks", "Not"): ["__init__(self, inner)"] + ASKED,
    ("asks", "Both"): ["__init__(self, one, other)"] + ASKED,
    ("deeds", "Move"): ["__init__(self, term, place)"] + DONE,
    ("deeds", "Put"): ["__init__(self, term, value)"] + DONE,
    ("rules", "Rule"): ["__init__(self, verb, tests, deeds, text, refuses=False)"],
    ("players", "Player"): ["__init__(self, world)", "say(self, row)", "stand(self)", "walk(self)"],
}


def module(name):
    return importlib.import_module("tellworld." + name)


class Interface(unittest.TestCase):
    def test_functions(self):
        for name, functions in FUNCTIONS.items():
            for told in functions:
                found = getattr(module(name), told.partition("(")[0])
                self.assertEqual(found.__name__ + str(inspect.signature(found)), told)

    def test_classes_and_their_methods(self):
        for (name, kind), methods in CLASSES.items():
            for told in methods:
                found = getattr(getattr(module(name), kind), told.partition("(")[0])
                self.assertEqual(found.__name__ + str(inspect.signature(found)), told)

    def test_tests_and_deeds_stand_under_theirs(self):
        for name, kind in CLASSES:
            if name in ("asks", "deeds"):
                base = module("asks").Test if name == "asks" else module("deeds").Deed
                self.assertTrue(issubclass(getattr(module(name), kind), base))

    def test_refusals(self):
        self.assertEqual(errors.TellError.__bases__, (ValueError,))
        for name in ("NoWorld", "NoCommand", "NoWish", "Unlike", "NoText"):
            self.assertEqual(getattr(errors, name).__bases__, (errors.TellError,))


class Whole(unittest.TestCase):
    def asked(self, world, stand, wish):
        """All that may be asked of a world at a stand, with what is handed in."""
        found = find(world, stand, wish, 40)
        other = read_world(world_text(world))
        rows = [own_row(world, command) for command in commands(world)[:4]] + ["take", "undo"]
        return [
            found, other and world_text(other), rows, [read(world, stand, row) for row in rows], matters(world, wish),
            is_closed(world, wish, world.parts()), fold(stand, matters(world, wish)), lifted(world, ()),
            never_holds(world, stand, wish, found[1:]), rows_hold(world, stand, wish, found[1:]),
            left(world, stand, wish, 40), judge(world, rows, wish, 10), lost(world, rows, wish, 10),
            answer_alike(world, stand, other, stand), parted(world, other, 10), tie_holds(world, other, [(stand, stand)]),
            [step(world, stand, command) for command in commands(world)],
        ]

    def test_one_answer_whatever_was_asked_before(self):
        for number, world in enumerate(drawn_worlds(61, 12)):
            for stand in drawn_stands(world, number, 2):
                for wish in drawn_wishes(world, number, 2):
                    text = world_text(world)
                    told = self.asked(world, stand, wish)
                    expected = copy.deepcopy(told)
                    self.empty(told)
                    self.assertEqual(self.asked(world, stand, wish), expected)
                    self.assertEqual(self.asked(read_world(text), tuple(stand), wish), expected)
                    self.assertEqual(world_text(world), text)

    def empty(self, told):
        """Does to each list that was told what its asker may do to it."""
        for one in list(told) if isinstance(told, (list, tuple)) else []:
            self.empty(one)
        if isinstance(told, list):
            told.clear()

    def test_worlds_that_are_handed_in_to_several_stay_apart(self):
        world = cellar_world()
        player = Player(world)
        before = (world_text(world), first_stand(world), find(world, first_stand(world), Has("torch"), 50))
        for row in ("open chest", "take torch", "light torch", "take coin", "undo"):
            player.say(row)
        judge(world, ["open chest", "take torch"], At("torch", "me"), 20)
        self.assertEqual((world_text(world), first_stand(world), find(world, first_stand(world), Has("torch"), 50)), before)


if __name__ == "__main__":
    unittest.main()
