import itertools
import unittest

from cellar import cellar_world, stand_where
from tellworld.seeing import has, holders_of, in_open, is_lit, is_seen, room_of, seen
from tellworld.stands import is_stand

# At the start you are in the hall with the bag, the coin in it; the chest is in the hall, the torch
# in it; tin and altar are in the cellar, which is dark. All boxes are shut, the torch is out.
WORLD = cellar_world()
FIRST = stand_where(WORLD)
NESTED = {"chest": "tin", "tin": "bag", "bag": "me", "coin": "chest"}


def where(at=None, **marks):
    return stand_where(WORLD, at, marks)


class Case(unittest.TestCase):
    def same(self, answer, wanted):
        self.assertEqual(answer, wanted)
        self.assertIs(answer.__class__, wanted.__class__)


class Holders(Case):
    def test_right_in_a_room(self):
        self.same(holders_of(WORLD, FIRST, "chest"), ["hall"])
        self.same(holders_of(WORLD, FIRST, "altar"), ["cellar"])

    def test_in_a_box(self):
        self.same(holders_of(WORLD, FIRST, "torch"), ["chest", "hall"])

    def test_with_you(self):
        self.same(holders_of(WORLD, FIRST, "bag"), ["me", "hall"])
        self.same(holders_of(WORLD, FIRST, "coin"), ["bag", "me", "hall"])

    def test_boxes_in_boxes_the_nearest_first(self):
        stand = where(NESTED)
        self.same(holders_of(WORLD, stand, "coin"), ["chest", "tin", "bag", "me", "hall"])
        self.same(holders_of(WORLD, stand, "tin"), ["bag", "me", "hall"])

    def test_of_you(self):
        self.same(holders_of(WORLD, FIRST, "me"), ["hall"])
        self.same(holders_of(WORLD, where({"me": "cellar"}), "me"), ["cellar"])

    def test_of_rooms_none(self):
        self.same(holders_of(WORLD, FIRST, "hall"), [])
        self.same(holders_of(WORLD, FIRST, "cellar"), [])

    def test_marks_play_no_part(self):
        self.same(holders_of(WORLD, where(bag=1, chest=1), "coin"), ["bag", "me", "hall"])

    def test_told_list_is_the_askers_own(self):
        told = holders_of(WORLD, FIRST, "coin")
        told.append("cellar")
        self.same(holders_of(WORLD, FIRST, "coin"), ["bag", "me", "hall"])


class Room(Case):
    def test_your_room(self):
        self.same(room_of(WORLD, FIRST), "hall")
        self.same(room_of(WORLD, where({"me": "cellar"})), "cellar")


class InOpen(Case):
    def told(self, stand, name, holder, wanted):
        self.assertIs(in_open(WORLD, stand, name, holder), wanted)

    def test_right_at_the_holder(self):
        self.told(FIRST, "chest", "hall", True)
        self.told(FIRST, "bag", "me", True)
        self.told(FIRST, "me", "hall", True)

    def test_own_mark_plays_no_part(self):
        self.told(where(chest=0), "chest", "hall", True)
        self.told(where(chest=1), "chest", "hall", True)

    def test_mark_of_the_holder_asked_up_to_plays_no_part(self):
        self.told(where(chest=0), "torch", "chest", True)
        self.told(where(chest=1), "torch", "chest", True)

    def test_box_between(self):
        self.told(where(chest=0), "torch", "hall", False)
        self.told(where(chest=1), "torch", "hall", True)

    def test_you_between_are_no_box(self):
        self.told(FIRST, "bag", "hall", True)
        self.told(where(bag=1), "coin", "hall", True)
        self.told(where(bag=0), "coin", "hall", False)

    def test_each_of_many_boxes_between(self):
        for chest, tin, bag in itertools.product((0, 1), repeat=3):
            with self.subTest(chest=chest, tin=tin, bag=bag):
                stand = where(NESTED, chest=chest, tin=tin, bag=bag)
                self.told(stand, "coin", "chest", True)
                self.told(stand, "coin", "tin", chest == 1)
                self.told(stand, "coin", "bag", chest == 1 and tin == 1)
                self.told(stand, "coin", "me", chest == 1 and tin == 1 and bag == 1)
                self.told(stand, "coin", "hall", chest == 1 and tin == 1 and bag == 1)
                self.told(stand, "chest", "hall", tin == 1 and bag == 1)

    def test_up_to_what_is_not_among_the_holders(self):
        self.told(FIRST, "chest", "cellar", False)
        self.told(FIRST, "chest", "me", False)
        self.told(where(chest=1), "torch", "bag", False)
        self.told(where(bag=1), "bag", "coin", False)

    def test_up_to_the_thing_itself(self):
        for name in WORLD.names():
            self.told(FIRST, name, name, False)
            self.told(where(chest=1, bag=1, tin=1), name, name, False)

    def test_of_rooms(self):
        self.told(FIRST, "hall", "cellar", False)
        self.told(FIRST, "hall", "me", False)


class Having(Case):
    def told(self, stand, name, wanted):
        self.assertIs(has(WORLD, stand, name), wanted)

    def test_in_your_hands(self):
        self.told(FIRST, "bag", True)

    def test_in_boxes_shut_or_not(self):
        self.told(where(bag=0), "coin", True)
        self.told(where(bag=1), "coin", True)
        self.told(where(NESTED), "coin", True)
        self.told(where(NESTED), "chest", True)

    def test_in_your_room_alone(self):
        self.told(FIRST, "chest", False)
        self.told(where(chest=1), "torch", False)

    def test_elsewhere(self):
        self.told(FIRST, "altar", False)
        self.told(FIRST, "tin", False)

    def test_rooms_and_you(self):
        for name in ("hall", "cellar", "me"):
            self.told(FIRST, name, False)


class Light(Case):
    def told(self, stand, wanted):
        self.assertIs(is_lit(WORLD, stand), wanted)

    def test_room_that_is_not_dark(self):
        self.told(FIRST, True)
        self.told(where(torch=1), True)

    def test_dark_without_a_lamp(self):
        self.told(where({"me": "cellar"}), False)

    def test_lamp_in_the_dark_room(self):
        self.told(where({"me": "cellar", "torch": "cellar"}, torch=0), False)
        self.told(where({"me": "cellar", "torch": "cellar"}, torch=1), True)

    def test_lamp_in_your_hands(self):
        self.told(where({"me": "cellar", "torch": "me"}, torch=0), False)
        self.told(where({"me": "cellar", "torch": "me"}, torch=1), True)

    def test_lamp_in_a_box_in_the_room(self):
        at = {"me": "cellar", "torch": "tin"}
        self.told(where(at, torch=1, tin=0), False)
        self.told(where(at, torch=1, tin=1), True)
        self.told(where(at, torch=0, tin=1), False)

    def test_lamp_in_a_box_in_your_hands(self):
        at = {"me": "cellar", "torch": "bag"}
        self.told(where(at, torch=1, bag=0), False)
        self.told(where(at, torch=1, bag=1), True)

    def test_lamp_in_another_room(self):
        self.told(where({"me": "cellar", "torch": "hall"}, torch=1), False)
        self.told(where({"me": "cellar", "torch": "chest"}, torch=1, chest=1), False)

    def test_an_open_box_is_no_lamp(self):
        self.told(where({"me": "cellar"}, tin=1, bag=1), False)


class Sight(Case):
    def told(self, stand, wanted):
        self.same(seen(WORLD, stand), wanted)
        for name in WORLD.names():
            with self.subTest(name=name):
                self.assertIs(is_seen(WORLD, stand, name), name in wanted)

    def test_first_stand(self):
        self.told(FIRST, ["bag", "chest"])

    def test_open_boxes(self):
        self.told(where(chest=1), ["bag", "chest", "torch"])
        self.told(where(bag=1), ["bag", "chest", "coin"])
        self.told(where(chest=1, bag=1, tin=1), ["bag", "chest", "coin", "torch"])

    def test_without_light_what_is_in_the_open_up_to_you(self):
        self.told(where({"me": "cellar"}), ["bag"])
        self.told(where({"me": "cellar"}, bag=1), ["bag", "coin"])
        self.told(where({"me": "cellar", "bag": "cellar"}, bag=1, tin=1), [])

    def test_light_in_the_dark(self):
        self.told(where({"me": "cellar", "torch": "me"}, torch=1), ["altar", "bag", "tin", "torch"])
        self.told(where({"me": "cellar", "torch": "me"}, torch=0), ["bag", "torch"])

    def test_lamp_in_a_shut_box_in_the_dark(self):
        self.told(where({"me": "cellar", "torch": "bag"}, torch=1), ["bag"])
        self.told(where({"me": "cellar", "torch": "bag"}, torch=1, bag=1), ["altar", "bag", "coin", "tin", "torch"])

    def test_other_rooms_are_not_seen(self):
        self.told(where({"coin": "cellar", "bag": "cellar"}, tin=1, bag=1), ["chest"])

    def test_rooms_and_you_never(self):
        for me, torch in itertools.product(("hall", "cellar"), ("me", "hall", "cellar")):
            stand = where({"me": me, "torch": torch}, torch=1)
            for name in ("hall", "cellar", "me"):
                self.assertIs(is_seen(WORLD, stand, name), False)
                self.assertNotIn(name, seen(WORLD, stand))

    def test_sorted_not_in_the_order_of_the_world(self):
        stand = where({name: "me" for name in ("tin", "chest", "torch", "altar", "coin")})
        self.told(stand, ["altar", "bag", "chest", "coin", "tin", "torch"])

    def test_told_list_is_the_askers_own(self):
        told = seen(WORLD, FIRST)
        told.clear()
        self.told(FIRST, ["bag", "chest"])

    def test_name_that_there_is_none_of(self):
        self.assertIs(is_seen(WORLD, FIRST, "nothing"), False)
        self.assertIs(has(WORLD, FIRST, "nothing"), False)


class NothingChanges(Case):
    def test_stand_and_world_stay(self):
        stand = where(NESTED)
        ahead, names, parts = stand, WORLD.names(), WORLD.parts()
        for name in WORLD.names():
            holders_of(WORLD, stand, name)
            in_open(WORLD, stand, name, "hall")
            has(WORLD, stand, name)
        seen(WORLD, stand)
        self.assertEqual((stand, WORLD.names(), WORLD.parts()), (ahead, names, parts))
        self.assertIs(is_stand(WORLD, stand), True)


if __name__ == "__main__":
    unittest.main()
