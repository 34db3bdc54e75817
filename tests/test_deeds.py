import itertools
import unittest

from cellar import bare_world, cellar_world, random_stands, stand_where
from tellworld.deeds import Deed, Move, Put, deed_of
from tellworld.stands import at_of, is_stand, mark_of, with_part
from tellworld.things import Thing

WORLD = cellar_world()
FIRST = stand_where(WORLD)
BOX_PARTS = (("at", "bag"), ("at", "chest"), ("at", "tin"))
STRANGE = (None, True, 3, -1, 1.5, "", "it", b"x", [], [1], (), ("x",), {}, {"x": 1}, set(), object(), len, Move)


def where(at=None, **marks):
    return stand_where(WORLD, at, marks)


class Case(unittest.TestCase):
    def done(self, deed, wanted, stand=FIRST, command=None):
        with self.subTest(deed=deed.told(), command=command):
            ahead = tuple(stand)
            answer = deed.done(WORLD, stand, command)
            self.assertEqual(answer, wanted)
            self.assertEqual(stand, ahead)
            self.assertEqual(deed.done(WORLD, stand, command), wanted)
            if answer is not None:
                self.assertIs(is_stand(WORLD, answer), True)

    def told(self, deed, reads, change, it=None, other=None):
        with self.subTest(deed=deed.told(), it=it, other=other):
            self.assertEqual(deed.reads(WORLD, it, other), reads)
            self.assertIsInstance(deed.reads(WORLD, it, other), tuple)
            self.assertEqual(deed.change(WORLD, it, other), change)


class Moves(Case):
    def test_by_names(self):
        self.done(Move("coin", "hall"), where({"coin": "hall"}))
        self.done(Move("coin", "me"), where({"coin": "me"}))
        self.done(Move("coin", "tin"), where({"coin": "tin"}))
        self.done(Move("chest", "bag"), where({"chest": "bag"}))
        self.done(Move("altar", "me"), where({"altar": "me"}))

    def test_of_you(self):
        self.done(Move("me", "cellar"), where({"me": "cellar"}))
        self.done(Move("me", "hall"), FIRST)

    def test_to_where_it_is(self):
        self.done(Move("coin", "bag"), FIRST)

    def test_lids_play_no_part(self):
        for value in (0, 1):
            self.done(Move("torch", "bag"), where({"torch": "bag"}, chest=value), where(chest=value))

    def test_by_it_other_and_here(self):
        command = ("put", "coin", "chest")
        self.done(Move("it", "other"), where({"coin": "chest"}), command=command)
        self.done(Move("other", "here"), FIRST, command=command)
        self.done(Move("it", "here"), where({"coin": "hall"}), command=command)
        self.done(Move("it", "here"), where({"me": "cellar", "coin": "cellar"}), where({"me": "cellar"}), command)
        self.done(Move("other", "bag"), where({"chest": "bag"}), command=command)
        self.done(Move("it", "me"), where({"coin": "me"}), command=("take", "coin", None))

    def test_to_what_cannot_hold(self):
        for place in ("altar", "torch", "coin"):
            self.done(Move("chest", place), None)
            self.done(Move("chest", "it"), None, command=("take", place, None))
            self.done(Move("it", "other"), None, command=("put", "chest", place))

    def test_of_a_room(self):
        for term, place in itertools.product(("hall", "cellar", "here"), ("hall", "cellar", "me", "bag", "here")):
            self.done(Move(term, place), None)

    def test_to_the_thing_itself(self):
        for name in ("bag", "chest", "tin"):
            self.done(Move(name, name), None)
            self.done(Move("it", "it"), None, command=("take", name, None))
            self.done(Move("it", "other"), None, command=("put", name, name))
        self.done(Move("me", "me"), None)

    def test_to_what_is_within_it(self):
        stand = where({"chest": "bag", "tin": "chest"})
        self.done(Move("bag", "chest"), None, stand)
        self.done(Move("bag", "tin"), None, stand)
        self.done(Move("chest", "tin"), None, stand)
        self.done(Move("it", "other"), None, stand, ("put", "bag", "tin"))
        self.done(Move("tin", "bag"), with_part(stand, ("at", "tin"), "bag"), stand)

    def test_by_terms_that_mean_nothing(self):
        self.done(Move("it", "hall"), None)
        self.done(Move("coin", "other"), None, command=("take", "coin", None))
        self.done(Move("other", "hall"), None, command=("take", "coin", None))

    def test_reads_and_change_by_names(self):
        self.told(Move("coin", "hall"), (), ("at", "coin"))
        self.told(Move("coin", "here"), (("at", "me"),), ("at", "coin"))
        self.told(Move("chest", "hall"), BOX_PARTS, ("at", "chest"))
        self.told(Move("chest", "here"), (("at", "bag"), ("at", "chest"), ("at", "me"), ("at", "tin")), ("at", "chest"))
        self.told(Move("chest", "tin"), BOX_PARTS, ("at", "chest"))
        self.told(Move("torch", "tin"), (), ("at", "torch"))
        self.told(Move("me", "cellar"), (), ("at", "me"))
        self.told(Move("coin", "me"), (), ("at", "coin"))

    def test_reads_and_change_of_it_and_other(self):
        self.told(Move("it", "other"), (), ("at", "coin"), "coin", "tin")
        self.told(Move("it", "other"), BOX_PARTS, ("at", "chest"), "chest", "tin")
        self.told(Move("other", "it"), BOX_PARTS, ("at", "tin"), "chest", "tin")
        self.told(Move("it", "here"), (("at", "me"),), ("at", "coin"), "coin")
        self.told(Move("coin", "it"), (), ("at", "coin"), "chest")

    def test_no_change_just_where_it_is_told(self):
        self.told(Move("hall", "cellar"), (), None)
        self.told(Move("here", "cellar"), (), None)
        self.told(Move("coin", "altar"), (), None)
        self.told(Move("coin", "torch"), (), None)
        self.told(Move("it", "other"), (), None, "coin", "altar")
        self.told(Move("it", "other"), BOX_PARTS, None, "chest", "coin")
        self.told(Move("chest", "chest"), BOX_PARTS, None)
        self.told(Move("it", "other"), BOX_PARTS, None, "tin", "tin")
        self.told(Move("me", "me"), (), None)
        # What is within it at the first stand still counts as changed: that hangs on the stand.
        self.told(Move("bag", "chest"), BOX_PARTS, ("at", "bag"))

    def test_a_place_here_can_hold_in_a_world_of_one_room_too(self):
        things = [Thing("den", ("den",), "room"), Thing("i", ("i",), "you", "den"), Thing("gem", ("gem",), "box", "i")]
        world = bare_world(things)
        self.assertEqual(Move("it", "here").change(world, "gem", None), ("at", "gem"))
        self.assertEqual(Move("it", "here").reads(world, "gem", None), (("at", "gem"), ("at", "i")))
        self.assertIsNone(Move("den", "here").change(world, None, None))

    def test_change_of_none(self):
        self.told(Move("it", "hall"), (), None)
        self.told(Move("coin", "other"), (), None, "coin", None)


class Puts(Case):
    def test_by_names(self):
        for value in range(4):
            self.done(Put("tide", value), where(tide=value))
        self.done(Put("door", 1), where(door=1))
        self.done(Put("chest", 1), where(chest=1))
        self.done(Put("torch", 1), where(torch=1))
        self.done(Put("torch", 0), where(), where(torch=1))

    def test_by_it_and_other(self):
        self.done(Put("it", 1), where(torch=1), command=("put", "torch", "chest"))
        self.done(Put("other", 1), where(chest=1), command=("put", "torch", "chest"))

    def test_of_what_has_no_mark(self):
        for name in ("coin", "altar"):
            for value in range(4):
                self.done(Put("it", value), None, command=("take", name, None))
                self.done(Put("other", value), None, command=("put", "chest", name))
                self.done(Put(name, value), None)
        self.done(Put("hall", 0), None)
        self.done(Put("me", 0), None)
        self.done(Put("it", 0), None)

    def test_above_its_most(self):
        for name in ("door", "chest", "torch"):
            self.done(Put(name, 2), None)
            self.done(Put(name, 3), None)
        self.done(Put("tide", 4), None)
        self.done(Put("it", 2), None, command=("take", "chest", None))
        self.done(Put("it", 3), None, command=("take", "torch", None))

    def test_reads_and_change(self):
        self.told(Put("tide", 3), (), ("mark", "tide"))
        self.told(Put("tide", 4), (), None)
        self.told(Put("chest", 1), (), ("mark", "chest"))
        self.told(Put("chest", 2), (), None)
        self.told(Put("it", 1), (), ("mark", "torch"), "torch", "chest")
        self.told(Put("other", 0), (), ("mark", "chest"), "torch", "chest")
        self.told(Put("it", 2), (), None, "torch")
        self.told(Put("it", 0), (), None, "coin")
        self.told(Put("it", 0), (), None)
        self.told(Put("other", 0), (), None, "chest", None)


def some_deeds():
    names = [name for name in WORLD.names() if name != "me"] + ["it", "other", "here"]
    places = ("hall", "cellar", "me", "bag", "tin", "chest", "altar", "it", "other", "here")
    deeds = [Move(term, place) for term, place in itertools.product(names, places)]
    deeds.extend([Move("me", "hall"), Move("me", "cellar")])
    deeds.extend([Put(term, value) for value in range(4) for term in names + ["tide", "door"]])
    return deeds


class WhatReadsAndChangeSay(unittest.TestCase):
    GIVEN = (("coin", "tin"), ("chest", None), ("tin", "bag"), ("bag", "bag"))

    def test_on_these_parts_alone_hangs_what_becomes_of_it(self):
        stands = random_stands(WORLD, 60)
        for deed, (it, other) in itertools.product(some_deeds(), self.GIVEN):
            parts = deed.reads(WORLD, it, other)
            change = deed.change(WORLD, it, other)
            command = ("put", it, other) if other else ("take", it, None)
            self.assertEqual(parts, tuple(sorted(set(parts))))
            values = {}
            for stand in stands:
                behind = deed.done(WORLD, stand, command)
                value = None if behind is None else dict(behind)[change]
                seen_parts = tuple([pair for pair in stand if pair[0] in parts])
                self.assertEqual(values.setdefault(seen_parts, value), value, (deed.told(), it, other))

    def test_nothing_but_the_change_is_changed(self):
        for deed, (it, other), stand in itertools.product(some_deeds(), self.GIVEN, random_stands(WORLD, 20)):
            change = deed.change(WORLD, it, other)
            behind = deed.done(WORLD, stand, ("put", it, other) if other else ("take", it, None))
            if behind is not None:
                self.assertIs(is_stand(WORLD, behind), True)
                changed = [one[0] for one, two in zip(stand, behind) if one != two]
                self.assertIn(changed, ([], [change]))

    def test_without_change_it_is_never_done(self):
        for deed, (it, other), stand in itertools.product(some_deeds(), self.GIVEN, random_stands(WORLD, 10)):
            if deed.change(WORLD, it, other) is None:
                self.assertIsNone(deed.done(WORLD, stand, ("put", it, other) if other else ("take", it, None)))


class OneBehindAnother(unittest.TestCase):
    def test_here_is_where_the_deed_ahead_brought_you(self):
        behind = Move("me", "cellar").done(WORLD, FIRST, ("take", "coin", None))
        behind = Move("it", "here").done(WORLD, behind, ("take", "coin", None))
        self.assertEqual((at_of(behind, "me"), at_of(behind, "coin")), ("cellar", "cellar"))

    def test_the_stands_ahead_stay(self):
        one = Put("tide", 3).done(WORLD, FIRST, None)
        two = Put("tide", 1).done(WORLD, one, None)
        self.assertEqual([mark_of(stand, "tide") for stand in (FIRST, one, two)], [2, 3, 1])


class Told(unittest.TestCase):
    def test_told(self):
        self.assertEqual(Move("it", "here").told(), ("move", "it", "here"))
        self.assertEqual(Put("tide", 2).told(), ("put", "tide", 2))

    def test_made_of_what_is_told(self):
        for deed in some_deeds():
            again = deed_of(deed.told())
            self.assertEqual(again.told(), deed.told())
            self.assertIs(again.__class__, deed.__class__)
            self.assertIsInstance(again, Deed)
            for stand in random_stands(WORLD, 2):
                command = ("put", "coin", "chest")
                self.assertEqual(again.done(WORLD, stand, command), deed.done(WORLD, stand, command))

    def test_all_stand_under_deed(self):
        self.assertEqual((Move.__bases__, Put.__bases__), ((Deed,), (Deed,)))


class Fields(unittest.TestCase):
    def test_by_the_names_told(self):
        self.assertEqual(vars(Move("coin", "bag")), {"term": "coin", "place": "bag"})
        self.assertEqual(vars(Put("tide", 3)), {"term": "tide", "value": 3})

    def test_made_with_anything(self):
        for thing in STRANGE:
            with self.subTest(thing=thing):
                self.assertEqual(vars(Move(thing, thing)), {"term": thing, "place": thing})
                self.assertEqual(vars(Put(thing, thing)), {"term": thing, "value": thing})


if __name__ == "__main__":
    unittest.main()
