"""Point 32: the fewest commands to a wish, or none, or more folds than may be come to."""

import copy
import unittest

from cellar import cellar_world, stand_where
from drawn import drawn_stands, drawn_wishes, drawn_worlds
from lane import depths_by_stands, fewest, lane_world
from tellworld.asks import At, Both, Has, Kind, Lit, Marked, Not, Seen, Word
from tellworld.deeds import Move, Put
from tellworld.errors import NoWish
from tellworld.folds import fold, matters
from tellworld.rules import Rule
from tellworld.search import find
from tellworld.stands import first_stand
from tellworld.steps import step
from tellworld.things import Mark, Thing
from tellworld.worlds import World
from wishes import right_wishes, wrong_wishes


def expected_find(world, wish, depths):
    """n, or None, and the fewest commands to each fold come to, by what depths_by_stands told."""
    parts = matters(world, wish)
    folds = {}
    for stand, depth in depths.items():
        folded = fold(stand, parts)
        folds[folded] = min(depth, folds.get(folded, depth))
    return (fewest(world, wish, depths), parts, folds)


class FindCase(unittest.TestCase):
    def leads_to(self, world, stand, wish, walk):
        self.assertIs(walk.__class__, list)
        for command in walk:
            self.assertIs(wish.holds(world, stand, None), False)
            answer, stand = step(world, stand, command)
            self.assertEqual(answer[0], "told")
        self.assertIs(wish.holds(world, stand, None), True)

    def is_found(self, world, stand, wish, expected):
        """All that find may tell of a wish, with as many folds as it needs and with one fewer."""
        count, parts, folds = expected
        if count is None:
            self.is_never(find(world, stand, wish, len(folds)), parts, folds)
            self.assertEqual(find(world, stand, wish, len(folds) - 1), ("more",))
            return
        nearer = {folded: depth for folded, depth in folds.items() if depth < count}
        for most in (max(1, len(nearer)), len(nearer) + 1, 500):
            told = find(world, stand, wish, most)
            self.assertEqual((told[0], told[2]), ("rows", parts))
            self.assertEqual(len(told[1]), count)
            self.leads_to(world, stand, wish, told[1])
            self.assertEqual(sorted(told[3]), sorted(nearer.items()))
            self.assertIs(told.__class__, tuple)
            self.assertEqual([one.__class__ for one in told[1:]], [list, list, list])
        if len(nearer) > 0:
            self.assertEqual(find(world, stand, wish, len(nearer) - 1), ("more",))

    def is_never(self, told, parts, folds):
        self.assertEqual(told[:2], ("never", parts))
        self.assertEqual(sorted(told[2]), sorted(folds))
        self.assertEqual([one.__class__ for one in told], [str, list, list])
        self.assertEqual(len(told), 3)


class Lane(FindCase):
    def fold_at(self, room):
        return ((("at", "me"), room),)

    def test_met_at_once(self):
        world = lane_world()
        for most in (1, 2, 500):
            self.assertEqual(find(world, first_stand(world), At("me", "ra"), most), ("rows", [], [("at", "me")], []))
            self.assertEqual(find(world, first_stand(world), Kind("me", "you"), most), ("rows", [], [], []))

    def test_by_one_and_by_several(self):
        world = lane_world()
        self.assertEqual(
            find(world, first_stand(world), At("me", "rb"), 1),
            ("rows", [("go", "on", None)], [("at", "me")], [(self.fold_at("ra"), 0)]),
        )
        told = find(world, first_stand(world), At("me", "rd"), 3)
        self.assertEqual(told[:3], ("rows", [("go", "on", None)] * 3, [("at", "me")]))
        self.assertEqual(sorted(told[3]),
            [(self.fold_at(room), depth) for depth, room in enumerate(["ra", "rb", "rc"])])

    def test_from_another_stand(self):
        world = lane_world()
        stand = stand_where(world, {"me": "rc"})
        self.assertEqual(find(world, stand, At("me", "rb"), 9)[1], [("go", "back", None)])
        self.assertEqual(find(world, stand, At("me", "rc"), 9)[1], [])
        self.is_never(find(world, stand, At("me", "ra"), 9), [("at", "me")],
                      [self.fold_at(room) for room in ("rb", "rc", "rd", "re")])

    def test_never(self):
        world = lane_world(marks=[Mark("bell", 0, 1)])
        self.is_never(find(world, first_stand(world), Marked("bell", 1), 1), [("mark", "bell")],
            [((("mark", "bell"), 0),)])
        self.is_never(find(world, first_stand(world), Kind("me", "box"), 1), [], [()])
        stand = stand_where(world, {"me": "re"})
        self.is_never(find(world, stand, At("me", "rd"), 1), [("at", "me")], [self.fold_at("re")])

    def test_more_at_the_very_number_and_one_fewer(self):
        world = lane_world()
        stand = first_stand(world)
        for count, room in enumerate(["ra", "rb", "rc", "rd", "re"]):
            for most in range(1, 7):
                told = find(world, stand, At("me", room), most)
                self.assertEqual(told[0], "rows" if count <= most else "more")
                if count > most:
                    self.assertEqual(told, ("more",))
        wish = Both(At("me", "ra"), At("me", "rb"))
        for most in range(1, 8):
            self.assertEqual(find(world, stand, wish, most)[0], "never" if most >= 5 else "more")

    def test_folds_come_to_with_the_last_command_do_not_count(self):
        # By one command all four values are come to, of which one meets the wish.
        rules = [Rule("go", [Word("on")], [Put("bell", 1)], "One."), Rule("go", [], [Put("bell", 2)], "Two."),
                 Rule("ring", [], [Put("bell", 3)], "Three.")]
        world = lane_world(rules, [Mark("bell", 0, 3)])
        for value in (1, 2, 3):
            told = find(world, first_stand(world), Marked("bell", value), 1)
            self.assertEqual(told[3], [(((("mark", "bell"), 0),), 0)])
            self.assertEqual(len(told[1]), 1)

    def test_waiting_leads_nowhere(self):
        world = lane_world()
        told = find(world, first_stand(world), At("me", "re"), 500)
        self.assertEqual(told[1], [("go", "on", None)] * 4)


class Cellar(FindCase):
    def test_hidden_and_locked(self):
        world = cellar_world(rules=[Rule("rub", [Has("it"), Kind("it", "lamp")], [Put("door", 1)], "It opens.")])
        stand = first_stand(world)
        told = find(world, stand, Both(At("me", "cellar"), Lit()), 500)
        self.leads_to(world, stand, Both(At("me", "cellar"), Lit()), told[1])
        self.assertEqual(len(told[1]), 5)
        told = find(world, stand, At("me", "cellar"), 500)
        self.assertEqual(len(told[1]), 4)

    def test_never_where_a_rule_bars_it(self):
        world = cellar_world()
        told = find(world, first_stand(world), At("me", "cellar"), 500)
        self.is_never(told, [("at", "me"), ("mark", "door")], [((("at", "me"), "hall"), (("mark", "door"), 0))])

    def test_what_is_lost_for_good(self):
        things = [Thing("hall", ("hall",), "room"), Thing("pit", ("pit",), "room"), Thing("me", ("me",), "you", "hall"),
                  Thing("coin", ("coin",), "plain", "me")]
        falls = Rule("drop", [], [Move("it", "pit")], "It falls.")
        for rules, sort in (([], "rows"), ([falls], "never")):
            world = World(things, [], [], [], [], rules)
            self.assertEqual(find(world, first_stand(world), At("coin", "hall"), 500)[0], sort)

    def test_told_lists_are_the_askers_own(self):
        world = cellar_world()
        for wish in (At("coin", "hall"), At("me", "cellar")):
            told = find(world, first_stand(world), wish, 500)
            expected = copy.deepcopy(told)
            for one in told[1:]:
                one.clear()
            self.assertEqual(find(world, first_stand(world), wish, 500), expected)

    def test_right_wishes_are_sought(self):
        world = cellar_world()
        for wish in right_wishes():
            self.assertIn(find(world, first_stand(world), wish, 30)[0], ("rows", "never", "more"))

    def test_what_is_no_wish(self):
        world = cellar_world()
        stand = first_stand(world)
        for wish in wrong_wishes():
            with self.subTest(wish=repr(wish)):
                with self.assertRaises(NoWish) as refusal:
                    find(world, stand, wish, 500)
                self.assertIs(refusal.exception.__class__, NoWish)
        for wrong_stand in (None, (), "hall", stand[1:]):
            self.assertRaises(NoWish, find, world, wrong_stand, Has("it"), 1)


class Drawn(FindCase):
    def test_like_a_search_by_stands(self):
        sorts = {"rows": 0, "never": 0}
        for number, world in enumerate(drawn_worlds(77, 90)):
            for stand in [first_stand(world)] + drawn_stands(world, number, 1):
                depths = depths_by_stands(world, stand, 250)
                if depths is not None:
                    for wish in drawn_wishes(world, number, 5):
                        expected = expected_find(world, wish, depths)
                        self.is_found(world, stand, wish, expected)
                        sorts["never" if expected[0] is None else "rows"] += 1
        self.assertGreater(min(sorts.values()), 50)


if __name__ == "__main__":
    unittest.main()
