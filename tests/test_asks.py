import itertools
import unittest

from cellar import cellar_world, random_stands, stand_where
from tellworld.asks import At, Both, Has, Kind, Lit, Marked, Not, Seen, Test, Word, test_of
from tellworld.stands import is_stand

WORLD = cellar_world()
FIRST = stand_where(WORLD)
BOX_PARTS = (("at", "bag"), ("at", "chest"), ("at", "tin"))
LIGHT_PARTS = (
    ("at", "bag"),
    ("at", "chest"),
    ("at", "me"),
    ("at", "tin"),
    ("at", "torch"),
    ("mark", "bag"),
    ("mark", "chest"),
    ("mark", "tin"),
    ("mark", "torch"),
)
STRANGE = (None, True, 3, -1, 1.5, "", "it", b"x", [], [1], (), ("x",), {}, {"x": 1}, set(), object(), len, At)
KINDS = ("room", "plain", "fixed", "box", "lamp", "you")


def where(at=None, **marks):
    return stand_where(WORLD, at, marks)


class Case(unittest.TestCase):
    def told(self, test, wanted, stand=FIRST, command=None):
        with self.subTest(test=test.told(), command=command):
            self.assertIs(test.holds(WORLD, stand, command), wanted)
            # Asked again, the same; and just the other is told of Not.
            self.assertIs(test.holds(WORLD, stand, command), wanted)
            self.assertIs(Not(test).holds(WORLD, stand, command), not wanted)

    def reads(self, test, wanted, it=None, other=None):
        with self.subTest(test=test.told(), it=it, other=other):
            answer = test.reads(WORLD, it, other)
            self.assertEqual(answer, wanted)
            self.assertIsInstance(answer, tuple)
            self.assertEqual(Not(test).reads(WORLD, it, other), wanted)


class Ats(Case):
    def test_by_names(self):
        self.told(At("coin", "bag"), True)
        self.told(At("bag", "me"), True)
        self.told(At("chest", "hall"), True)
        self.told(At("me", "hall"), True)

    def test_right_at_it_alone(self):
        self.told(At("coin", "me"), False)
        self.told(At("coin", "hall"), False)
        self.told(At("bag", "hall"), False)

    def test_elsewhere(self):
        self.told(At("coin", "chest"), False)
        self.told(At("me", "cellar"), False)

    def test_by_it_and_other(self):
        command = ("put", "coin", "bag")
        self.told(At("it", "other"), True, command=command)
        self.told(At("other", "it"), False, command=command)
        self.told(At("it", "bag"), True, command=command)
        self.told(At("other", "me"), True, command=command)
        self.told(At("it", "it"), False, command=command)
        self.told(At("it", "me"), True, command=("take", "bag", None))

    def test_by_here(self):
        self.told(At("chest", "here"), True)
        self.told(At("tin", "here"), False)
        self.told(At("tin", "here"), True, where({"me": "cellar"}))
        self.told(At("me", "here"), True)
        self.told(At("me", "here"), True, where({"me": "cellar"}))

    def test_of_a_room_is_false(self):
        for place in ("hall", "cellar", "me", "bag", "here", "it", "other"):
            self.told(At("hall", place), False, command=("take", "coin", None))
            self.told(At("here", place), False, command=("take", "coin", None))
            self.told(At("hall", place), False)

    def test_reads(self):
        self.reads(At("coin", "bag"), (("at", "coin"),))
        self.reads(At("coin", "here"), (("at", "coin"), ("at", "me")))
        self.reads(At("tin", "here"), (("at", "me"), ("at", "tin")))
        self.reads(At("me", "hall"), (("at", "me"),))
        self.reads(At("me", "here"), (("at", "me"),))

    def test_reads_of_it_and_other(self):
        self.reads(At("it", "other"), (("at", "coin"),), "coin", "bag")
        self.reads(At("other", "it"), (("at", "bag"),), "coin", "bag")
        self.reads(At("coin", "it"), (("at", "coin"),), "chest")
        self.reads(At("it", "here"), (("at", "coin"), ("at", "me")), "coin")
        self.reads(At("it", "other"), ())
        self.reads(At("it", "here"), (("at", "me"),))
        self.reads(At("other", "hall"), (), "coin", None)

    def test_reads_of_rooms(self):
        self.reads(At("hall", "cellar"), ())
        self.reads(At("hall", "here"), (("at", "me"),))
        self.reads(At("here", "hall"), (("at", "me"),))
        self.reads(At("here", "here"), (("at", "me"),))


class Hases(Case):
    def test_by_names(self):
        self.told(Has("bag"), True)
        self.told(Has("coin"), True)
        self.told(Has("coin"), True, where(bag=1))
        self.told(Has("chest"), False)
        self.told(Has("altar"), False)

    def test_by_it_and_other(self):
        self.told(Has("it"), True, command=("take", "coin", None))
        self.told(Has("it"), False, command=("take", "tin", None))
        self.told(Has("it"), True, command=("put", "coin", "tin"))
        self.told(Has("other"), False, command=("put", "coin", "tin"))

    def test_of_rooms_and_you_is_false(self):
        for term in ("hall", "cellar", "here", "me"):
            self.told(Has(term), False)

    def test_reads(self):
        self.reads(Has("coin"), (("at", "bag"), ("at", "chest"), ("at", "coin"), ("at", "tin")))
        self.reads(Has("torch"), BOX_PARTS + (("at", "torch"),))
        self.reads(Has("chest"), BOX_PARTS)
        self.reads(Has("it"), BOX_PARTS + (("at", "torch"),), "torch", "coin")
        self.reads(Has("other"), (("at", "altar"),) + BOX_PARTS, "torch", "altar")
        self.reads(Has("it"), BOX_PARTS)
        self.reads(Has("hall"), BOX_PARTS)
        self.reads(Has("here"), BOX_PARTS)


class Seens(Case):
    def test_by_names(self):
        self.told(Seen("bag"), True)
        self.told(Seen("chest"), True)
        self.told(Seen("torch"), False)
        self.told(Seen("torch"), True, where(chest=1))
        self.told(Seen("tin"), False)

    def test_in_the_dark(self):
        self.told(Seen("tin"), False, where({"me": "cellar"}))
        self.told(Seen("tin"), True, where({"me": "cellar", "torch": "me"}, torch=1))
        self.told(Seen("bag"), True, where({"me": "cellar"}))

    def test_by_it_and_other(self):
        self.told(Seen("it"), True, command=("put", "chest", "tin"))
        self.told(Seen("other"), False, command=("put", "chest", "tin"))

    def test_of_rooms_and_you_is_false(self):
        for term in ("hall", "cellar", "here", "me"):
            self.told(Seen(term), False)

    def test_reads(self):
        self.reads(Seen("chest"), LIGHT_PARTS)
        self.reads(Seen("coin"), tuple(sorted(LIGHT_PARTS + (("at", "coin"),))))
        self.reads(Seen("it"), tuple(sorted(LIGHT_PARTS + (("at", "altar"),))), "altar")
        self.reads(Seen("other"), tuple(sorted(LIGHT_PARTS + (("at", "coin"),))), "altar", "coin")
        self.reads(Seen("it"), LIGHT_PARTS)
        self.reads(Seen("hall"), LIGHT_PARTS)
        self.reads(Seen("here"), LIGHT_PARTS)


class Markeds(Case):
    def test_by_names(self):
        for value in range(4):
            self.told(Marked("tide", value), value == 2)
        self.told(Marked("door", 0), True)
        self.told(Marked("door", 1), False)
        self.told(Marked("chest", 0), True)
        self.told(Marked("chest", 1), True, where(chest=1))
        self.told(Marked("torch", 1), True, where(torch=1))

    def test_by_it_and_other(self):
        command = ("put", "torch", "chest")
        self.told(Marked("it", 0), True, command=command)
        self.told(Marked("it", 1), True, where(torch=1), command)
        self.told(Marked("other", 1), False, where(torch=1), command)
        self.told(Marked("other", 1), True, where(chest=1), command)

    def test_above_the_most(self):
        self.told(Marked("it", 3), False, where(chest=1), ("take", "chest", None))
        self.told(Marked("it", 2), False, where(chest=1), ("take", "chest", None))

    def test_of_a_thing_without_a_mark(self):
        for value in range(4):
            for thing in ("coin", "altar"):
                self.told(Marked("it", value), False, command=("take", thing, None))
                self.told(Marked("other", value), False, command=("put", "chest", thing))
                self.told(Marked(thing, value), False)

    def test_reads(self):
        self.reads(Marked("tide", 1), (("mark", "tide"),))
        self.reads(Marked("chest", 1), (("mark", "chest"),))
        self.reads(Marked("it", 1), (("mark", "torch"),), "torch", "chest")
        self.reads(Marked("other", 1), (("mark", "chest"),), "torch", "chest")
        self.reads(Marked("it", 1), (), "coin", "chest")
        self.reads(Marked("it", 1), ())
        self.reads(Marked("other", 1), (), "chest", None)


class Kinds(Case):
    def test_each_kind(self):
        names = {"hall": "room", "coin": "plain", "altar": "fixed", "tin": "box", "torch": "lamp", "me": "you"}
        for name, kind in itertools.product(names, KINDS):
            self.told(Kind(name, kind), names[name] == kind)

    def test_by_it_other_and_here(self):
        command = ("put", "coin", "tin")
        self.told(Kind("it", "plain"), True, command=command)
        self.told(Kind("it", "box"), False, command=command)
        self.told(Kind("other", "box"), True, command=command)
        self.told(Kind("here", "room"), True, command=command)
        self.told(Kind("here", "room"), True)
        self.told(Kind("here", "box"), False)

    def test_reads(self):
        for term in ("coin", "hall", "me", "it", "other", "here"):
            self.reads(Kind(term, "box"), (), "coin", "tin")
            self.reads(Kind(term, "box"), ())


class Words(Case):
    def test_of_a_way(self):
        self.told(Word("north"), True, command=("go", "north", None))
        self.told(Word("south"), False, command=("go", "north", None))
        self.told(Word("north"), True, command=("climb", "north", None))

    def test_a_things_name_is_no_word_of_a_command(self):
        self.told(Word("coin"), False, command=("take", "coin", None))
        self.told(Word("coin"), False, command=("put", "coin", "tin"))
        self.told(Word("tin"), False, command=("put", "coin", "tin"))

    def test_without_a_word(self):
        self.told(Word("north"), False, command=("wait", None, None))
        self.told(Word("wait"), False, command=("wait", None, None))
        self.told(Word("go"), False, command=("go", "north", None))

    def test_a_ways_word_is_no_thing(self):
        self.told(Has("it"), False, command=("go", "coin", None))
        self.told(Kind("it", "plain"), False, command=("go", "coin", None))

    def test_reads(self):
        self.reads(Word("north"), ())
        self.reads(Word("coin"), (), "coin", "tin")


class Lits(Case):
    def test_holds(self):
        self.told(Lit(), True)
        self.told(Lit(), False, where({"me": "cellar"}))
        self.told(Lit(), True, where({"me": "cellar", "torch": "me"}, torch=1))
        self.told(Lit(), True, command=("take", "coin", None))

    def test_reads(self):
        self.reads(Lit(), LIGHT_PARTS)
        self.reads(Lit(), LIGHT_PARTS, "coin", "tin")


class NotsAndBoths(Case):
    def test_not(self):
        self.told(Not(Has("bag")), False)
        self.told(Not(Not(Has("bag"))), True)
        self.told(Not(Not(Not(Has("bag")))), False)

    def test_both(self):
        yes, no = Has("bag"), Has("chest")
        self.told(Both(yes, yes), True)
        self.told(Both(yes, no), False)
        self.told(Both(no, yes), False)
        self.told(Both(no, no), False)

    def test_one_in_another(self):
        yes, no = Has("bag"), Has("chest")
        self.told(Both(Not(no), Not(Both(yes, no))), True)
        self.told(Not(Both(Not(no), Both(yes, yes))), False)
        self.told(Both(Both(yes, Not(no)), Not(Not(yes))), True)
        # Neither of two: the way in which or is said.
        self.told(Not(Both(Not(yes), Not(no))), True)
        self.told(Not(Both(Not(no), Not(no))), False)

    def test_terms_within(self):
        test = Both(Not(At("it", "other")), Both(Kind("other", "box"), At("other", "here")))
        self.told(test, True, command=("put", "coin", "chest"))
        self.told(test, False, command=("put", "torch", "chest"))
        self.told(test, False, command=("put", "coin", "tin"))

    def test_reads(self):
        self.reads(Both(At("coin", "bag"), Marked("tide", 1)), (("at", "coin"), ("mark", "tide")))
        self.reads(Both(Marked("tide", 1), At("coin", "bag")), (("at", "coin"), ("mark", "tide")))
        self.reads(Both(At("coin", "bag"), Not(At("coin", "me"))), (("at", "coin"),))
        self.reads(Both(Kind("it", "box"), Word("up")), (), "coin")
        self.reads(Both(Lit(), Both(Has("it"), Seen("other"))),
                   tuple(sorted(LIGHT_PARTS + (("at", "coin"), ("at", "altar")))), "coin", "altar")
        self.reads(Not(Both(Marked("it", 1), Marked("other", 1))), (("mark", "chest"), ("mark", "tin")), "tin", "chest")
        self.reads(Not(Both(Marked("it", 1), Marked("other", 1))), (("mark", "tin"),), "tin")


class WithoutACommand(Case):
    def test_names_are_asked_as_ever(self):
        self.told(Both(Has("coin"), Marked("tide", 2)), True)
        self.told(At("me", "here"), True)
        self.told(Lit(), True)

    def test_there_is_no_it_other_or_word(self):
        for term in ("it", "other"):
            for test in (At(term, "hall"), Has(term), Seen(term), Marked(term, 0), Kind(term, "plain")):
                self.told(test, False)
        self.told(Word("north"), False)

    def test_there_is_no_other_in_commands_of_one_thing(self):
        for test in (At("other", "hall"), Has("other"), Seen("other"), Marked("other", 0), Kind("other", "plain")):
            self.told(test, False, command=("take", "coin", None))


def some_tests():
    terms = WORLD.names() + ["it", "other", "here"]
    places = ("hall", "cellar", "me", "bag", "tin", "it", "other", "here")
    tests = [At(term, place) for term, place in itertools.product(terms, places)]
    tests.extend([make(term) for make in (Has, Seen) for term in terms])
    tests.extend([Marked(term, value) for value in range(4) for term in terms + ["tide", "door"]])
    tests.extend([Kind(term, kind) for kind in KINDS for term in terms])
    tests.extend([Lit(), Word("up")])
    return tests


class WhatReadsSay(unittest.TestCase):
    def test_on_these_parts_alone_the_value_hangs(self):
        stands = random_stands(WORLD, 60)
        given = (("coin", "tin"), ("chest", None), ("torch", "bag"), ("bag", "bag"))
        tests = some_tests()
        tests.extend([Both(Not(one), other) for one, other in zip(tests[::7], tests[3::5])])
        for test, (it, other) in itertools.product(tests, given):
            parts = test.reads(WORLD, it, other)
            command = ("put", it, other) if other else ("take", it, None)
            self.assertEqual(parts, tuple(sorted(set(parts))))
            for part in parts:
                self.assertIn(part, WORLD.parts())
            values = {}
            for stand in stands:
                seen_parts = tuple([pair for pair in stand if pair[0] in parts])
                value = test.holds(WORLD, stand, command)
                self.assertIs(values.setdefault(seen_parts, value), value, (test.told(), it, other))

    def test_a_stand_mixed_of_two_that_agree_there(self):
        stands = random_stands(WORLD, 40)
        for test in some_tests()[::3]:
            parts = test.reads(WORLD, "coin", "tin")
            for one, two in zip(stands, stands[1:]):
                mixed = tuple([pair if pair[0] in parts else twin for pair, twin in zip(one, two)])
                if is_stand(WORLD, mixed):
                    command = ("put", "coin", "tin")
                    self.assertIs(test.holds(WORLD, one, command), test.holds(WORLD, mixed, command), test.told())


class Told(unittest.TestCase):
    EACH = (
        (At("coin", "here"), ("at", "coin", "here")),
        (Has("it"), ("has", "it")),
        (Seen("other"), ("seen", "other")),
        (Marked("tide", 3), ("marked", "tide", 3)),
        (Kind("it", "box"), ("kind", "it", "box")),
        (Word("north"), ("word", "north")),
        (Lit(), ("lit",)),
        (Not(Has("it")), ("not", ("has", "it"))),
        (Both(Lit(), Has("it")), ("both", ("lit",), ("has", "it"))),
        (Not(Both(Not(Lit()), At("it", "me"))), ("not", ("both", ("not", ("lit",)), ("at", "it", "me")))),
    )

    def test_told(self):
        for test, wanted in self.EACH:
            self.assertEqual(test.told(), wanted)
            self.assertIsInstance(test.told(), tuple)

    def test_made_of_what_is_told(self):
        for test, wanted in self.EACH:
            again = test_of(wanted)
            self.assertEqual(again.told(), wanted)
            self.assertIs(again.__class__, test.__class__)
            self.assertIsInstance(again, Test)

    def test_all_stand_under_test(self):
        for test, wanted in self.EACH:
            self.assertEqual(test.__class__.__bases__, (Test,))

    def test_made_again_it_holds_alike(self):
        for test in some_tests():
            again = test_of(test.told())
            for stand in random_stands(WORLD, 3):
                command = ("put", "torch", "chest")
                self.assertIs(again.holds(WORLD, stand, command), test.holds(WORLD, stand, command))
            self.assertEqual(again.reads(WORLD, "coin", "tin"), test.reads(WORLD, "coin", "tin"))


class Fields(unittest.TestCase):
    def test_by_the_names_told(self):
        one, other = Lit(), Has("it")
        self.assertEqual(vars(At("coin", "bag")), {"term": "coin", "place": "bag"})
        self.assertEqual(vars(Has("coin")), {"term": "coin"})
        self.assertEqual(vars(Seen("coin")), {"term": "coin"})
        self.assertEqual(vars(Marked("tide", 3)), {"term": "tide", "value": 3})
        self.assertEqual(vars(Kind("it", "box")), {"term": "it", "kind": "box"})
        self.assertEqual(vars(Word("north")), {"word": "north"})
        self.assertEqual(vars(Lit()), {})
        self.assertEqual(vars(Not(one)), {"inner": one})
        self.assertEqual(vars(Both(one, other)), {"one": one, "other": other})

    def test_made_with_anything(self):
        for thing in STRANGE:
            with self.subTest(thing=thing):
                self.assertEqual(vars(At(thing, thing)), {"term": thing, "place": thing})
                self.assertEqual(vars(Has(thing)), {"term": thing})
                self.assertEqual(vars(Seen(thing)), {"term": thing})
                self.assertEqual(vars(Marked(thing, thing)), {"term": thing, "value": thing})
                self.assertEqual(vars(Kind(thing, thing)), {"term": thing, "kind": thing})
                self.assertEqual(vars(Word(thing)), {"word": thing})
                self.assertEqual(vars(Not(thing)), {"inner": thing})
                self.assertEqual(vars(Both(thing, thing)), {"one": thing, "other": thing})

    def test_what_is_asked_changes_nothing(self):
        ahead = (FIRST, WORLD.parts(), WORLD.names())
        stand, command = where(chest=1), ("put", "torch", "chest")
        kept = where(chest=1)
        for test in some_tests():
            fields = dict(vars(test))
            test.holds(WORLD, stand, command)
            test.reads(WORLD, "torch", "chest")
            test.told()
            self.assertEqual(vars(test), fields)
        self.assertEqual((stand, command), (kept, ("put", "torch", "chest")))
        self.assertEqual((FIRST, WORLD.parts(), WORLD.names()), ahead)


if __name__ == "__main__":
    unittest.main()
