"""Points 3, 8, 9, 10 and 12: things, marks, dark rooms and ways of which a world is made, or refused."""

import unittest

from cellar import cellar_parts, cellar_world
from refusals import WorldCase
from strange import strange_values
from tellworld.things import Mark, Thing, Verb
from tellworld.worlds import World

DEN = Thing("den", ("den",), "room")
ME = Thing("i", ("i",), "you", "den")
BARRED = ("it", "other", "here", "the", "a", "undo", "restart")
NO_NAMES = BARRED + ("", "ninechars", "Coin", "coin1", "old coin", " coin", "coin\n", "c\u00f6in", "-")


def things_with(thing):
    """The things of the cellar world, the one of this name exchanged, or one more at the end."""
    things = cellar_parts()["things"]
    names = [other.name for other in things]
    if thing.name in names:
        things[names.index(thing.name)] = thing
    else:
        things.append(thing)
    return things


def things_without(name):
    return [thing for thing in cellar_parts()["things"] if thing.name != name]


class Bounds(WorldCase):
    def least(self, things, marks=(), ways=()):
        return {"things": things, "marks": list(marks), "dark": [], "ways": list(ways), "verbs": []}

    def test_rooms(self):
        rooms = [Thing(name, (name,), "room") for name in ("den", "bath", "loft", "yard", "pond", "shed")]
        for count in (1, 2, 5):
            self.let_by(**self.least(rooms[:count] + [ME]))
        self.refused(**self.least(rooms[:6] + [ME]))

    def test_no_room(self):
        self.let_by(**self.least([DEN, ME]))
        self.refused(**self.least([ME]))
        self.refused(**self.least([Thing("i", ("i",), "you")]))
        self.refused(**self.least([]))

    def test_just_one_you(self):
        self.let_by(**self.least([DEN, ME]))
        self.refused(**self.least([DEN]))
        self.refused(**self.least([DEN, ME, Thing("we", ("we",), "you", "den")]))
        self.refused(things=things_without("me")[:4])

    def test_things_beside(self):
        beside = [Thing("b" * count, ("c" * count,), "plain", "den") for count in range(1, 9)]
        for count in (0, 1, 7):
            self.let_by(**self.least([DEN, ME] + beside[:count]))
        self.refused(**self.least([DEN, ME] + beside[:8]))

    def test_all_at_most_together(self):
        rooms = [Thing(name, (name,), "room") for name in ("den", "bath", "loft", "yard", "pond")]
        beside = [Thing("b" * count, ("c" * count,), "box", "den") for count in range(1, 8)]
        self.let_by(**self.least(rooms + [ME] + beside))

    def test_marks(self):
        marks = [Mark("m" * count, 0, 1) for count in range(1, 6)]
        for count in (0, 1, 4):
            self.let_by(marks=marks[:count], ways=[])
        self.refused(marks=marks, ways=[])

    def test_ways(self):
        ways = [("hall", "w" * count, "cellar", None) for count in range(1, 12)]
        for count in (0, 1, 10):
            self.let_by(ways=ways[:count])
        self.refused(ways=ways)

    def test_letters_of_a_name(self):
        self.let_by(things=things_with(Thing("eightsig", ("gem",), "plain", "hall")))
        self.refused(things=things_with(Thing("ninesigns", ("gem",), "plain", "hall")))
        self.let_by(marks=[Mark("door", 0, 1), Mark("eightsig", 0, 1)])
        self.refused(marks=[Mark("door", 0, 1), Mark("ninesigns", 0, 1)])

    def test_letters_of_a_word(self):
        self.let_by(things=things_with(Thing("gem", ("b" * 12,), "plain", "hall")))
        self.refused(things=things_with(Thing("gem", ("b" * 13,), "plain", "hall")))
        self.let_by(ways=[("hall", "b" * 12, "cellar", None)])
        self.refused(ways=[("hall", "b" * 13, "cellar", None)])

    def test_words_of_a_thing(self):
        words = ("small", "red", "old", "round", "dull")
        self.let_by(things=things_with(Thing("gem", words[:1], "plain", "hall")))
        self.let_by(things=things_with(Thing("gem", words[:4], "plain", "hall")))
        self.refused(things=things_with(Thing("gem", (), "plain", "hall")))
        self.refused(things=things_with(Thing("gem", words, "plain", "hall")))


class Names(WorldCase):
    def test_no_names(self):
        self.let_by(things=things_with(Thing("gem", ("gem",), "plain", "hall")))
        for name in NO_NAMES:
            self.refused(things=things_with(Thing(name, ("gem",), "plain", "hall")))
            self.refused(things=[Thing(name, ("gem",), "room")] + cellar_parts()["things"])

    def test_no_name_of_you(self):
        for name in NO_NAMES:
            self.refused(things=[DEN, Thing(name, ("gem",), "you", "den")], dark=[], ways=[])

    def test_names_of_no_text(self):
        for name in strange_values():
            self.refused(things=cellar_parts()["things"] + [Thing(name, ("gem",), "plain", "hall")])

    def test_told_twice(self):
        for name in ("hall", "coin", "me", "tin"):
            self.refused(things=cellar_parts()["things"] + [Thing(name, ("gem",), "plain", "hall")])
        self.refused(things=cellar_parts()["things"] + [Thing("hall", ("gem",), "room")])
        thing = Thing("gem", ("gem",), "plain", "hall")
        self.refused(things=cellar_parts()["things"][:-1] + [thing, thing])
        self.let_by(things=cellar_parts()["things"][:-1] + [thing])

    def test_name_of_a_mark(self):
        self.refused(things=things_with(Thing("tide", ("gem",), "plain", "hall")))
        self.refused(things=things_with(Thing("door", ("gem",), "box", "hall")))
        for name in ("hall", "coin", "chest", "torch", "me"):
            self.refused(marks=cellar_parts()["marks"] + [Mark(name, 0, 1)])

    def test_names_like_verbs_and_words_are_let_by(self):
        for name in ("take", "rub", "bind", "in", "to", "up", "oak", "room", "lit", "none"):
            self.let_by(things=things_with(Thing(name, ("gem",), "plain", "hall")))
            self.let_by(marks=cellar_parts()["marks"] + [Mark(name, 0, 1)])


class Kinds(WorldCase):
    def test_each_kind(self):
        for kind in ("plain", "fixed", "box", "lamp"):
            self.let_by(things=things_with(Thing("gem", ("gem",), kind, "hall")))
        self.let_by(things=things_with(Thing("gem", ("gem",), "room")))

    def test_no_kinds(self):
        for kind in ("", "Box", "boxes", "thing", "mark", "it", "dark", "open", " box", "plain "):
            self.refused(things=things_with(Thing("gem", ("gem",), kind, "hall")))

    def test_kinds_of_no_text(self):
        for kind in strange_values():
            self.refused(things=things_with(Thing("gem", ("gem",), kind, "hall")))
            self.refused(things=things_with(Thing("gem", ("gem",), kind)))


class Starts(WorldCase):
    def test_in_rooms_boxes_and_with_you(self):
        for start in ("hall", "cellar", "chest", "bag", "me"):
            for kind in ("plain", "fixed", "box", "lamp"):
                self.let_by(things=things_with(Thing("gem", ("gem",), kind, start)))

    def test_where_there_is_none_such(self):
        for start in ("attic", "", "tide", "door", "oak", "it", "here", "you", "room", "Hall", "-"):
            self.refused(things=things_with(Thing("gem", ("gem",), "plain", start)))

    def test_in_what_cannot_hold(self):
        for start in ("coin", "torch", "altar"):
            self.refused(things=things_with(Thing("gem", ("gem",), "plain", start)))

    def test_none(self):
        for kind in ("plain", "fixed", "box", "lamp"):
            self.refused(things=things_with(Thing("gem", ("gem",), kind)))
        self.refused(things=things_with(Thing("me", ("me",), "you")))

    def test_of_a_room(self):
        self.let_by(things=things_with(Thing("attic", ("attic",), "room", None)))
        for start in ("hall", "attic", "me", "chest", "", "-", 0, False, [], (), "None"):
            self.refused(things=things_with(Thing("attic", ("attic",), "room", start)))

    def test_of_you(self):
        self.let_by(things=things_with(Thing("me", ("me",), "you", "cellar")))
        for start in ("chest", "tin", "bag", "me", "coin", "torch", "tide", "attic"):
            self.refused(things=things_with(Thing("me", ("me",), "you", start)))

    def test_of_no_text(self):
        for start in strange_values():
            self.refused(things=things_with(Thing("gem", ("gem",), "plain", start)))
            self.refused(things=things_with(Thing("me", ("me",), "you", start)))
            if start is not None:
                self.refused(things=things_with(Thing("attic", ("attic",), "room", start)))

    def test_in_itself(self):
        self.refused(things=things_with(Thing("chest", ("oak", "chest"), "box", "chest")))

    def test_rings(self):
        things = cellar_parts()["things"]
        others = [thing for thing in things if thing.name not in ("tin", "chest", "bag")]

        def boxes(tin, chest, bag):
            return others + [
                Thing("tin", ("tin",), "box", tin),
                Thing("chest", ("oak", "chest"), "box", chest),
                Thing("bag", ("bag",), "box", bag),
            ]

        self.let_by(things=boxes("chest", "bag", "hall"))
        self.let_by(things=boxes("me", "tin", "chest"))
        self.refused(things=boxes("chest", "tin", "hall"))
        self.refused(things=boxes("chest", "bag", "tin"))
        self.refused(things=boxes("hall", "bag", "chest"))
        self.refused(things=boxes("tin", "bag", "hall"))

    def test_ring_of_seven(self):
        names = ["b" * count for count in range(1, 8)]
        for last in ("den", "i"):
            starts = names[1:] + [last]
            boxes = [Thing(name, (name,), "box", start) for name, start in zip(names, starts)]
            self.let_by(things=[DEN, ME] + boxes, dark=[], ways=[])
        boxes = [Thing(name, (name,), "box", start) for name, start in zip(names, names[1:] + names[:1])]
        self.refused(things=[DEN, ME] + boxes, dark=[], ways=[])

    def test_start_told_behind(self):
        self.let_by(things=[Thing("gem", ("gem",), "plain", "pot"), Thing("pot", ("pot",), "box", "i"), ME, DEN],
                    dark=[], ways=[])


class WordsOfThings(WorldCase):
    def gem(self, words, kind="plain"):
        return things_with(Thing("gem", words, kind, None if kind == "room" else "hall"))

    def test_twice(self):
        for kind in ("plain", "room", "box"):
            self.let_by(things=self.gem(("red", "gem"), kind))
            self.refused(things=self.gem(("red", "red"), kind))
            self.refused(things=self.gem(("red", "gem", "old", "red"), kind))

    def test_a_list_or_a_text(self):
        for words in (["gem"], "gem", {"gem": 1}, None, 5, ("gem"), frozenset(["gem"])):
            self.refused(things=self.gem(words))
            self.refused(things=self.gem(words, "room"))
            self.refused(things=things_with(Thing("me", words, "you", "hall")))

    def test_no_words(self):
        for word in ("the", "a", "", "Gem", "red gem", "gem1", "-", "b" * 13, " gem"):
            self.refused(things=self.gem((word,)))
            self.refused(things=self.gem(("red", word)))
            self.refused(things=self.gem((word,), "room"))
            self.refused(things=things_with(Thing("me", (word,), "you", "hall")))

    def test_of_no_text(self):
        for word in strange_values():
            if not isinstance(word, tuple):
                self.refused(things=self.gem(word))
            self.refused(things=self.gem((word,)))
            self.refused(things=self.gem(("red", word)))
            self.refused(things=self.gem((word, word)))

    def test_barred_names_are_words(self):
        for word in ("it", "other", "here", "undo", "restart"):
            self.let_by(things=self.gem((word,)))

    def test_all_words_of_another(self):
        self.refused(things=self.gem(("coin",)))
        self.refused(things=self.gem(("old", "coin")))
        self.refused(things=self.gem(("coin", "old")))
        self.refused(things=self.gem(("oak", "chest")))
        self.refused(things=self.gem(("chest", "oak")))
        self.refused(things=self.gem(("oak", "big", "chest")))
        self.refused(things=self.gem(("chest",)))
        self.refused(things=self.gem(("oak",)))

    def test_some_words_of_another(self):
        self.let_by(things=self.gem(("oak", "table")))
        self.let_by(things=self.gem(("old", "chest")))
        self.let_by(things=self.gem(("oak", "old", "box", "table")))

    def test_words_of_rooms_and_you_are_free(self):
        self.let_by(things=self.gem(("hall",)))
        self.let_by(things=self.gem(("me",)))
        self.let_by(things=self.gem(("coin",), "room"))
        self.let_by(things=self.gem(("hall",), "room"))
        self.let_by(things=things_with(Thing("me", ("coin",), "you", "hall")))
        self.let_by(things=things_with(Thing("me", ("hall",), "you", "hall")))

    def test_one_word_told_in_two_orders(self):
        things = cellar_parts()["things"][:5] + [
            Thing("key", ("small", "key"), "plain", "hall"),
            Thing("ring", ("small", "ring"), "plain", "hall"),
        ]
        self.let_by(things=things)
        self.refused(things=things + [Thing("gem", ("ring", "small"), "plain", "hall")])
        self.refused(things=[Thing("gem", ("ring",), "plain", "hall")] + things)


class Marks(WorldCase):
    def mark(self, start, most):
        return cellar_parts()["marks"] + [Mark("flood", start, most)]

    def test_each_start_and_most(self):
        for most in range(-1, 6):
            for start in range(-2, 6):
                if 1 <= most <= 3 and 0 <= start <= most:
                    self.let_by(marks=self.mark(start, most))
                else:
                    self.refused(marks=self.mark(start, most))

    def test_truths_and_texts(self):
        for most in (True, False, "1", "", None, [1], (1,), 1.0):
            self.refused(marks=self.mark(0, most))
        for start in (True, False, "0", "", None, [0], (0,), 0.0):
            self.refused(marks=self.mark(start, 1))

    def test_of_any_kind(self):
        for value in strange_values():
            if value.__class__ is not int:
                self.refused(marks=self.mark(value, 1))
                self.refused(marks=self.mark(0, value))

    def test_names(self):
        self.let_by(marks=cellar_parts()["marks"] + [Mark("flood", 0, 1)])
        for name in NO_NAMES:
            self.refused(marks=cellar_parts()["marks"] + [Mark(name, 0, 1)])
        for name in strange_values():
            self.refused(marks=cellar_parts()["marks"] + [Mark(name, 0, 1)])

    def test_told_twice(self):
        self.refused(marks=cellar_parts()["marks"] + [Mark("tide", 0, 1)])
        self.refused(marks=cellar_parts()["marks"] + [Mark("door", 0, 1)])


class Dark(WorldCase):
    def test_let_by(self):
        for dark in ([], ["hall"], ["cellar"], ["hall", "cellar"], ["cellar", "hall"]):
            self.let_by(dark=dark)

    def test_twice(self):
        self.refused(dark=["cellar", "cellar"])
        self.refused(dark=["hall", "cellar", "hall"])

    def test_no_room(self):
        for name in ("attic", "coin", "me", "chest", "torch", "tide", "", "it", "here", "Hall"):
            self.refused(dark=[name])
            self.refused(dark=["hall", name])

    def test_of_any_kind(self):
        for name in strange_values():
            self.refused(dark=[name])
            self.refused(dark=["hall", name])


class Ways(WorldCase):
    def way(self, *way):
        return cellar_parts()["ways"] + [tuple(way)]

    def test_let_by(self):
        self.let_by(ways=self.way("hall", "north", "cellar", None))
        self.let_by(ways=self.way("hall", "north", "hall", None))
        for mark in ("tide", "door", "chest", "tin", "torch"):
            self.let_by(ways=self.way("hall", "north", "cellar", mark))

    def test_no_tuple_of_four(self):
        for way in (
            (), ("hall",), ("hall", "north", "cellar"), ("hall", "north", "cellar", None, None),
            ["hall", "north", "cellar", None], "hall", "four", None, 4, {"hall": "north"},
        ):
            self.refused(ways=cellar_parts()["ways"] + [way])

    def test_from_or_to_what_is_no_room(self):
        for name in ("attic", "me", "coin", "chest", "tide", "", "here", "it", "-"):
            self.refused(ways=self.way(name, "north", "cellar", None))
            self.refused(ways=self.way("cellar", "north", name, None))

    def test_by_no_word(self):
        for word in ("", "the", "a", "North", "b" * 13, "two words", "n1", "-"):
            self.refused(ways=self.way("hall", word, "cellar", None))

    def test_by_a_mark_that_there_is_none_of(self):
        for mark in ("flood", "coin", "altar", "hall", "me", "", "-", "None", "it"):
            self.refused(ways=self.way("hall", "north", "cellar", mark))

    def test_of_any_kind(self):
        for thing in strange_values():
            self.refused(ways=cellar_parts()["ways"] + [thing])
            self.refused(ways=self.way(thing, "north", "cellar", None))
            self.refused(ways=self.way("hall", thing, "cellar", None))
            self.refused(ways=self.way("hall", "north", thing, None))
            if thing is not None:
                self.refused(ways=self.way("hall", "north", "cellar", thing))

    def test_one_word_from_one_room_twice(self):
        self.refused(ways=self.way("hall", "down", "cellar", "door"))
        self.refused(ways=self.way("hall", "down", "hall", None))
        self.refused(ways=self.way("cellar", "up", "cellar", "tide"))
        self.let_by(ways=self.way("cellar", "down", "cellar", None))
        self.let_by(ways=self.way("hall", "up", "cellar", None))


class OtherKinds(WorldCase):
    def test_what_is_no_list(self):
        for name in ("things", "marks", "dark", "ways", "verbs", "rules"):
            for thing in strange_values():
                if not isinstance(thing, list):
                    self.refused(**{name: thing})

    def test_lists_of_other_things(self):
        for name in ("things", "marks", "verbs", "rules"):
            for thing in strange_values():
                if not isinstance(thing, (Thing, Mark, Verb)) and thing.__class__.__name__ != "Rule":
                    self.refused(**{name: cellar_parts()[name] + [thing]})
        self.refused(things=cellar_parts()["things"] + [Mark("flood", 0, 1)])
        self.refused(marks=cellar_parts()["marks"] + [Thing("gem", ("gem",), "plain", "hall")])
        self.refused(verbs=cellar_parts()["verbs"] + [Mark("flood", 0, 1)])

    def test_a_refused_world_changes_nothing_handed_in(self):
        parts = cellar_parts()
        parts["marks"].append(Mark("tide", 0, 1))
        ahead = {name: list(value) for name, value in parts.items()}
        self.refused(**parts)
        self.assertEqual(parts, ahead)

    def test_least_world(self):
        self.assertEqual(World([DEN, ME], [], [], [], [], []).names(), ["den", "i"])
        self.assertEqual(cellar_world().you(), "me")


if __name__ == "__main__":
    unittest.main()
