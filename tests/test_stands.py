import unittest

from cellar import bare_world, cellar_world
from strange import EqualToAll, FailsAtEquals
from tellworld.stands import at_of, first_stand, is_stand, mark_of, with_part
from tellworld.things import Mark, Thing
from tellworld.worlds import World

FIRST = (
    (("at", "altar"), "cellar"),
    (("at", "bag"), "me"),
    (("at", "chest"), "hall"),
    (("at", "coin"), "bag"),
    (("at", "me"), "hall"),
    (("at", "tin"), "cellar"),
    (("at", "torch"), "chest"),
    (("mark", "bag"), 0),
    (("mark", "chest"), 0),
    (("mark", "door"), 0),
    (("mark", "tide"), 2),
    (("mark", "tin"), 0),
    (("mark", "torch"), 0),
)
PARTS = [part for part, value in FIRST]


STRANGE = (
    None,
    True,
    False,
    0,
    1,
    -3,
    1.5,
    float("nan"),
    "",
    "hall",
    b"hall",
    [],
    ["hall"],
    (),
    ("hall",),
    ("at", "it"),
    ([], []),
    {},
    {"at": "me"},
    set(),
    object(),
    EqualToAll(),
    FailsAtEquals(),
    len,
    Thing,
    Thing("hall", ("hall",), "room"),
)


def put(place, pair):
    return FIRST[:place] + (pair,) + FIRST[place + 1:]


def place_of(part):
    return PARTS.index(part)


def valued(part, value):
    return put(place_of(part), (part, value))


class FirstStand(unittest.TestCase):
    def test_whole(self):
        self.assertEqual(first_stand(cellar_world()), FIRST)

    def test_form(self):
        stand = first_stand(cellar_world())
        self.assertIsInstance(stand, tuple)
        for pair in stand:
            self.assertIsInstance(pair, tuple)
            self.assertEqual(len(pair), 2)
            self.assertIsInstance(pair[0], tuple)
        self.assertEqual(list(stand), sorted(stand))

    def test_each_part_once(self):
        parts = [part for part, value in first_stand(cellar_world())]
        self.assertEqual(parts, cellar_world().parts())
        self.assertEqual(len(parts), len(set(parts)))

    def test_rooms_have_no_part(self):
        parts = [part for part, value in first_stand(cellar_world())]
        self.assertNotIn(("at", "hall"), parts)
        self.assertNotIn(("mark", "hall"), parts)

    def test_least_world(self):
        world = bare_world([Thing("den", ("den",), "room"), Thing("i", ("i",), "you", "den")], [])
        self.assertEqual(first_stand(world), ((("at", "i"), "den"),))

    def test_starts_of_own_marks(self):
        things = [Thing("den", ("den",), "room"), Thing("i", ("i",), "you", "den")]
        world = bare_world(things, [Mark("z", 0, 3), Mark("b", 3, 3), Mark("k", 1, 1)])
        self.assertEqual(
            first_stand(world),
            ((("at", "i"), "den"), (("mark", "b"), 3), (("mark", "k"), 1), (("mark", "z"), 0)),
        )

    def test_world_is_not_changed(self):
        world = cellar_world()
        names, parts = world.names(), world.parts()
        first_stand(world)
        self.assertEqual((world.names(), world.parts()), (names, parts))

    def test_later_changes_reach_no_stand(self):
        things = [Thing("den", ("den",), "room"), Thing("i", ("i",), "you", "den")]
        marks = [Mark("tide", 2, 3)]
        world = World(things, marks, [], [], [], [])
        things.clear()
        marks.append(Mark("door", 0, 1))
        world.own_marks().clear()
        world.parts().clear()
        self.assertEqual(first_stand(world), ((("at", "i"), "den"), (("mark", "tide"), 2)))


class Values(unittest.TestCase):
    def test_at_of_things(self):
        for part, value in FIRST:
            if part[0] == "at":
                with self.subTest(part=part):
                    self.assertEqual(at_of(FIRST, part[1]), value)

    def test_at_of_rooms(self):
        self.assertIsNone(at_of(FIRST, "hall"))
        self.assertIsNone(at_of(FIRST, "cellar"))

    def test_at_of_an_own_mark(self):
        self.assertIsNone(at_of(FIRST, "tide"))

    def test_mark_of_marks(self):
        stand = valued(("mark", "chest"), 1)
        self.assertEqual(mark_of(stand, "chest"), 1)
        self.assertEqual(mark_of(stand, "bag"), 0)
        self.assertEqual(mark_of(stand, "torch"), 0)
        self.assertEqual(mark_of(stand, "tide"), 2)
        self.assertEqual(mark_of(stand, "door"), 0)

    def test_mark_of_names_without_one(self):
        for name in ("coin", "altar", "me", "hall", "nowhere"):
            with self.subTest(name=name):
                self.assertIsNone(mark_of(FIRST, name))


class WithPart(unittest.TestCase):
    def test_changes_that_part_alone(self):
        for part, value in FIRST:
            new = "cellar" if part[0] == "at" else 1
            with self.subTest(part=part):
                self.assertEqual(with_part(FIRST, part, new), valued(part, new))

    def test_of_a_box_its_place_and_its_mark_are_apart(self):
        moved = with_part(FIRST, ("at", "chest"), "cellar")
        self.assertEqual((at_of(moved, "chest"), mark_of(moved, "chest")), ("cellar", 0))
        opened = with_part(FIRST, ("mark", "chest"), 1)
        self.assertEqual((at_of(opened, "chest"), mark_of(opened, "chest")), ("hall", 1))

    def test_is_a_right_stand(self):
        self.assertIs(is_stand(cellar_world(), with_part(FIRST, ("at", "coin"), "cellar")), True)
        self.assertIs(is_stand(cellar_world(), with_part(FIRST, ("mark", "tide"), 3)), True)

    def test_same_value(self):
        self.assertEqual(with_part(FIRST, ("at", "coin"), "bag"), FIRST)

    def test_what_is_handed_in_stays(self):
        stand = first_stand(cellar_world())
        with_part(stand, ("mark", "door"), 1)
        with_part(stand, ("at", "me"), "cellar")
        self.assertEqual(stand, first_stand(cellar_world()))

    def test_one_after_the_other(self):
        stand = with_part(with_part(FIRST, ("mark", "door"), 1), ("mark", "tide"), 0)
        self.assertEqual((mark_of(stand, "door"), mark_of(stand, "tide")), (1, 0))


class RightStands(unittest.TestCase):
    def yes(self, stand):
        with self.subTest(stand=stand):
            self.assertIs(is_stand(cellar_world(), stand), True)

    def test_first_stand(self):
        self.yes(first_stand(cellar_world()))

    def test_each_holder(self):
        for holder in ("hall", "cellar", "me", "bag", "chest", "tin"):
            self.yes(valued(("at", "coin"), holder))
            self.yes(valued(("at", "altar"), holder))
            self.yes(valued(("at", "torch"), holder))

    def test_you_in_each_room(self):
        self.yes(valued(("at", "me"), "hall"))
        self.yes(valued(("at", "me"), "cellar"))

    def test_each_value_of_a_mark(self):
        for value in (0, 1, 2, 3):
            self.yes(valued(("mark", "tide"), value))
        for name in ("door", "bag", "chest", "tin", "torch"):
            self.yes(valued(("mark", name), 0))
            self.yes(valued(("mark", name), 1))

    def test_boxes_within_boxes(self):
        stand = with_part(FIRST, ("at", "chest"), "bag")
        stand = with_part(stand, ("at", "tin"), "chest")
        self.yes(stand)
        self.yes(with_part(stand, ("at", "coin"), "tin"))

    def test_many_boxes_one_in_the_other(self):
        names = ["b" * count for count in range(1, 8)]
        things = [Thing("den", ("den",), "room"), Thing("i", ("i",), "you", "den")]
        things = things + [Thing(name, (name,), "box", "den") for name in names]
        world = bare_world(things, [])
        stand = with_part(first_stand(world), ("at", names[0]), "i")
        for inner, outer in zip(names[1:], names):
            stand = with_part(stand, ("at", inner), outer)
        self.assertIs(is_stand(world, stand), True)
        ring = with_part(stand, ("at", names[0]), names[-1])
        self.assertIs(is_stand(world, ring), False)

    def test_least_world(self):
        world = bare_world([Thing("den", ("den",), "room"), Thing("i", ("i",), "you", "den")], [])
        self.assertIs(is_stand(world, ((("at", "i"), "den"),)), True)
        self.assertIs(is_stand(world, ()), False)


class WrongStands(unittest.TestCase):
    def no(self, thing):
        with self.subTest(thing=repr(thing)):
            self.assertIs(is_stand(cellar_world(), thing), False)

    def test_part_left_out(self):
        for place in range(len(FIRST)):
            self.no(FIRST[:place] + FIRST[place + 1:])

    def test_part_twice(self):
        for place in range(len(FIRST)):
            self.no(FIRST[:place] + (FIRST[place],) + FIRST[place:])
            self.no(FIRST + (FIRST[place],))

    def test_part_twice_in_place_of_another(self):
        for place in range(len(FIRST) - 1):
            self.no(put(place, FIRST[place + 1]))
            self.no(put(place + 1, FIRST[place]))

    def test_another_order(self):
        self.no(tuple(reversed(FIRST)))
        for place in range(len(FIRST) - 1):
            self.no(FIRST[:place] + (FIRST[place + 1], FIRST[place]) + FIRST[place + 2:])

    def test_another_name(self):
        self.no(put(place_of(("at", "coin")), (("at", "cola"), "bag")))
        self.no(put(place_of(("mark", "tide")), (("mark", "tiff"), 2)))
        self.no(put(place_of(("at", "coin")), (("mark", "coin"), "bag")))
        self.no(put(place_of(("at", "coin")), (("in", "coin"), "bag")))

    def test_part_more(self):
        self.no(tuple(sorted(FIRST + ((("at", "hall"), "cellar"),))))
        self.no(tuple(sorted(FIRST + ((("at", "nothing"), "hall"),))))
        self.no(tuple(sorted(FIRST + ((("mark", "coin"), 0),))))

    def test_holder_that_cannot_hold(self):
        self.no(valued(("at", "coin"), "altar"))
        self.no(valued(("at", "coin"), "torch"))
        self.no(valued(("at", "torch"), "coin"))

    def test_holder_that_there_is_not(self):
        for value in ("attic", "", "Hall", "it", "here", "other", "you", "-"):
            self.no(valued(("at", "coin"), value))

    def test_holder_that_is_a_mark(self):
        self.no(valued(("at", "coin"), "tide"))
        self.no(valued(("at", "me"), "door"))

    def test_you_elsewhere_than_in_a_room(self):
        for value in ("bag", "chest", "tin", "me", "coin", "torch", "altar", "tide", "attic"):
            self.no(valued(("at", "me"), value))

    def test_mark_out_of_its_bounds(self):
        for value in (-1, -2, 4, 5, 1000):
            self.no(valued(("mark", "tide"), value))
        for name in ("door", "bag", "chest", "tin", "torch"):
            self.no(valued(("mark", name), -1))
            self.no(valued(("mark", name), 2))

    def test_mark_that_is_no_whole_number(self):
        for value in (True, False, "1", "0", "", None, 1.0, 0.0, [1], (1,), {1: 1}, object(), EqualToAll()):
            self.no(valued(("mark", "tide"), value))
            self.no(valued(("mark", "chest"), value))

    def test_place_that_is_no_text(self):
        for value in STRANGE:
            if not isinstance(value, str):
                self.no(valued(("at", "coin"), value))
                self.no(valued(("at", "me"), value))

    def test_thing_within_itself(self):
        for name in ("bag", "chest", "tin"):
            self.no(valued(("at", name), name))

    def test_ring_of_two(self):
        self.no(with_part(valued(("at", "bag"), "chest"), ("at", "chest"), "bag"))
        self.no(with_part(valued(("at", "tin"), "chest"), ("at", "chest"), "tin"))

    def test_ring_of_three(self):
        stand = with_part(FIRST, ("at", "bag"), "chest")
        stand = with_part(stand, ("at", "chest"), "tin")
        self.assertIs(is_stand(cellar_world(), stand), True)
        self.no(with_part(stand, ("at", "tin"), "bag"))

    def test_lists_for_tuples(self):
        self.no(list(FIRST))
        self.no([list(pair) for pair in FIRST])
        for place, (part, value) in enumerate(FIRST):
            self.no(put(place, [part, value]))
            self.no(put(place, (list(part), value)))

    def test_pairs_of_other_lengths(self):
        for place, (part, value) in enumerate(FIRST):
            self.no(put(place, (part, value, value)))
            self.no(put(place, (part,)))
            self.no(put(place, ()))
            self.no(put(place, (part + ("x",), value)))
            self.no(put(place, (part[:1], value)))
            self.no(put(place, ((), value)))

    def test_texts_for_pairs_and_parts(self):
        self.no(put(place_of(("at", "me")), "me"))
        self.no(put(place_of(("at", "me")), ("at", "hall")))

    def test_anything_as_the_whole(self):
        for thing in STRANGE:
            self.no(thing)
        self.no("x" * len(FIRST))
        self.no(dict(FIRST))
        self.no(frozenset(FIRST))
        self.no(iter(FIRST))

    def test_anything_as_each_pair(self):
        for thing in STRANGE:
            self.no((thing,) * len(FIRST))
            for place in range(len(FIRST)):
                self.no(put(place, thing))

    def test_anything_as_a_part_or_within_one(self):
        for thing in STRANGE:
            for place, (part, value) in enumerate(FIRST):
                self.no(put(place, (thing, value)))
                self.no(put(place, ((thing, part[1]), value)))
                self.no(put(place, ((part[0], thing), value)))

    def test_anything_as_a_value(self):
        for thing in STRANGE:
            self.no(tuple([(part, thing) for part in PARTS]))

    def test_deep_nests(self):
        nest = ()
        for count in range(5000):
            nest = (nest, 0)
        for place, (part, value) in enumerate(FIRST):
            for stand in (put(place, nest), put(place, (nest, value)), put(place, (part, nest))):
                self.assertIs(is_stand(cellar_world(), stand), False)

    def test_asking_changes_nothing(self):
        inner = ["at", "me"]
        handed = [[inner, "hall"], {"at": ["me"]}]
        is_stand(cellar_world(), handed)
        is_stand(cellar_world(), (tuple(handed),) * len(FIRST))
        self.assertEqual(handed, [[["at", "me"], "hall"], {"at": ["me"]}])


if __name__ == "__main__":
    unittest.main()
