"""Points 5, 33 and 34: papers that hold, and each way in which one doesn't."""

import copy
import random
import unittest

from drawn import drawn_value, drawn_wishes, drawn_worlds
from lane import depths_by_stands, fewest, lane_world, marks_of
from strange import EqualToAll, FailsAtEquals, strange_values
from tellworld.asks import At, Both, Has, Kind, Marked
from tellworld.deeds import Put
from tellworld.errors import NoWish
from tellworld.folds import fold, is_closed, lifted, matters
from tellworld.papers import never_holds, rows_hold
from tellworld.rules import Rule
from tellworld.search import find
from tellworld.stands import first_stand, is_stand
from tellworld.steps import commands, step
from tellworld.things import Thing
from wishes import wrong_wishes

ON, BACK, RING, WAIT = ("go", "on", None), ("go", "back", None), ("ring", None, None), ("wait", None, None)
ME, BELL, ROPE = ("at", "me"), ("mark", "bell"), ("mark", "rope")


def paper_world():
    """The bell is rung in the second of three rooms alone; nothing moves the rope."""
    things = [Thing("bag", ("bag",), "box", "ra"), Thing("tin", ("tin",), "box", "ra"),
        Thing("coin", ("coin",), "plain", "ra")]
    rules = [Rule("ring", [At("me", "rb")], [Put("bell", 1)], "Rung.")]
    return lane_world(rules, marks_of("bell", "rope"), things, 3, ("rb",))


def fold_of(room, bell, rope=None):
    folded = ((ME, room), (BELL, bell))
    return folded if rope is None else folded + ((ROPE, rope),)


def replaced(thing, value):
    """The thing with each of what is within it, and itself, replaced by the value, one at a time."""
    found = [value]
    if isinstance(thing, (list, tuple)):
        for place, one in enumerate(thing):
            for other in replaced(one, value):
                whole = list(thing)
                whole[place] = other
                found.append(whole if isinstance(thing, list) else tuple(whole))
    return found


def recast(thing):
    """The thing with each list within it as a tuple, or each tuple as a list, one at a time."""
    found = []
    if isinstance(thing, (list, tuple)):
        found.append(tuple(thing) if isinstance(thing, list) else list(thing))
        for place, one in enumerate(thing):
            for other in recast(one):
                whole = list(thing)
                whole[place] = other
                found.append(whole if isinstance(thing, list) else tuple(whole))
    return found


def is_same(thing, other):
    """Equal, and of the same kinds; without asking strange objects whether they are equal."""
    if thing.__class__ is not other.__class__:
        return False
    if isinstance(thing, (list, tuple)):
        return len(thing) == len(other) and all(is_same(*pair) for pair in zip(thing, other))
    return thing is other or (isinstance(thing, (str, int)) and thing == other)


class PaperCase(unittest.TestCase):
    def setUp(self):
        self.world = paper_world()
        self.stand = first_stand(self.world)

    def holds(self, *paper, wish=None, stand=None):
        told = self.check(self.world, stand or self.stand, wish or self.wish, paper)
        self.assertIs(told, True, paper)

    def fails(self, *paper, wish=None, stand=None):
        told = self.check(self.world, stand or self.stand, wish or self.wish, paper)
        self.assertIs(told, False, paper)

    def fails_as(self, paper):
        self.assertIs(self.check(self.world, self.stand, self.wish, paper), False, repr(paper))

    def is_let_by_as_it_stands_alone(self, paper):
        self.assertIs(self.check(self.world, self.stand, self.wish, paper), True)
        for other in recast(paper):
            self.fails_as(other)
        values = strange_values() + [EqualToAll(), FailsAtEquals(), [None], [()], [[]], ((), ()), "ab", ("at", "me")]
        for value in values:
            for other in replaced(paper, value):
                if not is_same(other, paper):
                    with self.subTest(other=repr(other)):
                        self.assertIn(self.check(self.world, self.stand, self.wish, other), (True, False))
                        # Another number may well make another paper that holds.
                        if value.__class__ is not int:
                            self.fails_as(other)

    def refuses_what_is_no_wish(self, paper):
        for wish in wrong_wishes():
            # They are made for another world, but are none of this one either.
            with self.assertRaises(NoWish) as refusal:
                self.check(self.world, self.stand, wish, paper)
            self.assertIs(refusal.exception.__class__, NoWish)
        for strange in strange_values():
            self.assertRaises(NoWish, self.check, self.world, self.stand, Has("it"), strange)
            self.assertRaises(NoWish, self.check, self.world, self.stand, None, strange)
            if not isinstance(strange, Has):
                self.assertRaises(NoWish, self.check, self.world, strange, strange, None)


class Never(PaperCase):
    check = staticmethod(never_holds)

    def setUp(self):
        super().setUp()
        self.wish = Both(Marked("rope", 1), Both(Marked("bell", 1), At("me", "rc")))
        self.parts = [ME, BELL, ROPE]
        self.folds = [fold_of(room, bell, 0) for room in ("ra", "rb", "rc") for bell in (0, 1)]

    def test_what_find_tells(self):
        told = find(self.world, self.stand, self.wish, 6)
        self.assertEqual(told[:2], ("never", self.parts))
        self.assertEqual(sorted(told[2]), self.folds)
        self.holds(*told[1:])

    def test_folds_in_any_order_and_more_than_once(self):
        self.holds(self.parts, self.folds)
        self.holds(self.parts, self.folds[::-1])
        self.holds(self.parts, self.folds + self.folds[:3])
        self.holds(self.parts, [self.folds[0]] * 4 + self.folds)

    def test_from_other_stands(self):
        for room in ("ra", "rb", "rc"):
            stand = lifted(self.world, fold_of(room, 1, 0))
            self.holds(self.parts, self.folds, stand=stand)
        self.holds(self.parts, [fold_of("rc", 1, 0)], stand=lifted(self.world, fold_of("rc", 1, 0)))
        self.fails(self.parts, self.folds, stand=lifted(self.world, fold_of("ra", 0, 1)))

    def test_more_folds_than_are_come_to(self):
        stand = lifted(self.world, fold_of("rc", 0, 0))
        self.holds(self.parts, [fold_of("rc", 0, 0)], stand=stand)
        self.holds(self.parts, self.folds, stand=stand)

    def test_kinds(self):
        self.is_let_by_as_it_stands_alone((self.parts, self.folds))
        for paper in strange_values():
            self.fails_as(paper)

    def test_too_few_or_too_many(self):
        for paper in ((), (self.parts,), (self.parts, self.folds, []), ("never", self.parts, self.folds),
                      (self.folds, self.parts), ([], []), (self.parts, []), ([], self.folds), ([], [()])):
            self.fails_as(paper)

    def test_truths_and_numbers_with_a_point(self):
        for value in (False, 0.0, "0", None):
            self.fails(self.parts, [((ME, "ra"), (BELL, value), (ROPE, 0))] + self.folds)
            self.fails(self.parts, [((ME, "ra"), (BELL, value), (ROPE, 0))] + self.folds[1:])

    def test_parts(self):
        for parts in ([BELL, ME, ROPE], [ME, ME, BELL, ROPE], [ME, BELL], [ME, ROPE], [BELL, ROPE], []):
            self.fails(parts, [fold(lifted(self.world, folded), parts) for folded in self.folds])
            self.fails(parts, [tuple((part, dict(folded).get(part)) for part in parts) for folded in self.folds])
        for part in (("at", "ra"), ("at", "nobody"), ("mark", "me"), ("mark", "coin"), ("at", "bell"), ("is", "me"),
            ("at",),
                     ("at", "me", "me"), ("at", None), "me", None, ()):
            parts = sorted([ME, BELL, ROPE, part], key=repr)
            self.fails(parts, self.folds)
            self.fails(parts, [folded[:1] + ((part, 0),) + folded[1:] for folded in self.folds])

    def test_more_parts_than_the_least(self):
        parts = self.world.parts()
        folds = list(depths_by_stands(self.world, self.stand, 5000))
        self.assertLess(len(folds), 5000)
        self.holds(parts, folds)
        self.fails(parts, folds[:-1])
        self.fails(parts, folds[1:])
        # The bag can't be left out, as taking the tin hangs on it.
        self.fails([ME, ("at", "tin"), BELL, ROPE], [])
        # What no command touches may be there or not.
        wish = Marked("rope", 1)
        self.holds([ROPE], [((ROPE, 0),)], wish=wish)
        self.holds(self.parts, self.folds, wish=wish)
        self.holds([ME, ROPE], [((ME, room), (ROPE, 0)) for room in ("ra", "rb", "rc")], wish=wish)
        self.fails([BELL, ROPE], [((BELL, bell), (ROPE, 0)) for bell in (0, 1)], wish=wish)

    def test_folds_of_other_parts(self):
        self.fails(self.parts, self.folds + [fold_of("ra", 0)])
        self.fails(self.parts, self.folds + [()])
        self.fails(self.parts, self.folds + [self.stand])
        self.fails(self.parts, self.folds + [((ME, "ra"), (BELL, 0), (BELL, 0))])
        self.fails(self.parts, self.folds + [((("at", "coin"), "ra"), (BELL, 0), (ROPE, 0))])

    def test_folds_turned_about(self):
        for folded in self.folds:
            for turned in (folded[::-1], (folded[1], folded[0], folded[2]), (folded[0], folded[2], folded[1])):
                self.fails(self.parts, self.folds + [turned])
        self.fails(self.parts, [folded[::-1] for folded in self.folds])
        self.fails(self.parts, self.folds + [tuple((value, part) for part, value in self.folds[0])])

    def test_folds_that_lifted_are_not_right(self):
        for wrong in (
            fold_of("nobody", 0, 0), fold_of("bag", 0, 0), fold_of("me", 0, 0), fold_of("coin", 0, 0),
            fold_of(None, 0, 0), fold_of("ra", 2, 0), fold_of("ra", -1, 0), fold_of("ra", 0, 2),
        ):
            self.fails(self.parts, self.folds + [wrong])

    def test_boxes_within_each_other(self):
        parts = self.world.parts()
        folds = list(depths_by_stands(self.world, self.stand, 5000))
        ring = dict(self.stand)
        ring[("at", "bag")] = "tin"
        ring[("at", "tin")] = "bag"
        self.holds(parts, folds)
        self.fails(parts, folds + [tuple(sorted(ring.items()))])

    def test_the_stands_fold_left_out(self):
        # All that is come to from the others is among them: from the last room none leads on.
        folds = [fold_of("rc", 0, 0), fold_of("rc", 1, 0)]
        self.fails(self.parts, folds)
        self.holds(self.parts, folds, stand=lifted(self.world, folds[0]))

    def test_a_fold_at_which_the_wish_is_met(self):
        met = fold_of("rc", 1, 1)
        self.fails(self.parts, self.folds + [met])
        self.fails(self.parts, [met], stand=lifted(self.world, met))
        self.holds(self.parts, self.folds + [fold_of("rc", 0, 1)])

    def test_a_command_that_leads_out(self):
        for folded in self.folds:
            self.fails(self.parts, [one for one in self.folds if one != folded])
        self.fails(self.parts, self.folds + [fold_of("ra", 0, 1)])

    def test_a_wish_of_no_parts(self):
        self.holds([], [()], wish=Kind("coin", "box"))
        self.fails([], [], wish=Kind("coin", "box"))
        self.fails([], [()], wish=Kind("coin", "plain"))
        self.fails([], [((),)], wish=Kind("coin", "box"))

    def test_the_paper_stays(self):
        paper = (list(self.parts), list(self.folds))
        expected = copy.deepcopy(paper)
        self.holds(*paper)
        self.assertEqual(paper, expected)

    def test_what_is_no_wish(self):
        self.refuses_what_is_no_wish((self.parts, self.folds))


class Rows(PaperCase):
    check = staticmethod(rows_hold)

    def setUp(self):
        super().setUp()
        self.wish = Both(Marked("bell", 1), At("me", "rc"))
        self.walk = [ON, RING, ON]
        self.parts = [ME, BELL]
        self.depths = [(fold_of("ra", 0), 0), (fold_of("rb", 0), 1), (fold_of("rb", 1), 2), (fold_of("rc", 0), 2)]

    def test_what_find_tells(self):
        told = find(self.world, self.stand, self.wish, 4)
        self.assertEqual(told[:3], ("rows", self.walk, self.parts))
        self.assertEqual(sorted(told[3]), self.depths)
        self.holds(*told[1:])

    def test_depths_in_any_order(self):
        for depths in (self.depths, self.depths[::-1], self.depths[2:] + self.depths[:2]):
            self.holds(self.walk, self.parts, depths)

    def test_kinds(self):
        self.is_let_by_as_it_stands_alone((self.walk, self.parts, self.depths))
        for paper in strange_values():
            self.fails_as(paper)

    def test_too_few_or_too_many(self):
        for paper in (
            (), (self.walk, self.parts), (self.walk, self.parts, self.depths, []), (self.parts, self.walk, self.depths),
            ("rows", self.walk, self.parts, self.depths), (self.walk, self.depths, self.parts), ([], [], []),
        ):
            self.fails_as(paper)

    def test_what_is_no_command(self):
        for wrong in (("go", "off", None), ("bell", None, None), ("go", "on"), ["go", "on", None], "go on", None,
                      ("take", "me", None), ("ring", None, "bag"), ()):
            for place in range(3):
                self.fails(self.walk[:place] + [wrong] + self.walk[place + 1:], self.parts, self.depths)
            self.fails(self.walk + [wrong], self.parts, self.depths)

    def test_a_command_too_many(self):
        for walk in ([WAIT] + self.walk, [ON, BACK] + self.walk, [ON, WAIT, RING, ON], self.walk + [WAIT],
                     [ON, RING, RING, ON], self.walk * 2):
            self.fails(walk, self.parts, self.depths)

    def test_a_longer_walk_needs_deeper_folds(self):
        # Were it the fewest, all folds come to by fewer would be there, and one of them meets the wish.
        every = self.depths + [(fold_of("rc", 1), 3), (fold_of("ra", 1), 3)]
        self.fails([WAIT] + self.walk, self.parts, every)
        self.fails([WAIT] + self.walk, self.parts, every[:4] + every[5:])

    def test_a_command_too_few(self):
        for walk in ([], [ON], [ON, RING], [RING, ON], [ON, ON]):
            self.fails(walk, self.parts, self.depths)

    def test_commands_that_are_not_told(self):
        self.fails([RING, ON, ON], self.parts, self.depths)
        stand = lifted(self.world, fold_of("rb", 1))
        wish = At("me", "rc")
        self.holds([ON], [ME], [(((ME, "rb"),), 0)], wish=wish, stand=stand)
        taken = ("take", "coin", None)
        self.fails([taken, ON], [ME], [(((ME, "rb"),), 0)], wish=wish, stand=stand)
        self.fails([ON, ON], [ME], [(((ME, "rb"),), 0)], wish=wish, stand=stand)

    def test_refused_on_a_walk_that_meets_the_wish_all_the_same(self):
        # Two commands, the first refused: at most as many as are needed, if it counted.
        depths = [(fold_of("rb", 1), 0)]
        stand = lifted(self.world, fold_of("rb", 1))
        self.holds([ON], self.parts, depths, stand=stand)
        more = depths + [(fold_of("ra", 1), 1)]
        self.fails([("drop", "coin", None), ON], self.parts, more, stand=stand)

    def test_the_wish_is_not_met_behind_the_last(self):
        self.fails([ON, RING, BACK], self.parts, self.depths)
        self.fails([ON, ON, WAIT], self.parts, self.depths)

    def test_depths_that_are_none(self):
        for place, (folded, depth) in enumerate(self.depths):
            for wrong in (-1, -depth - 1, None, "0", float(depth), [depth], (depth,), depth + 100, 10 ** 30):
                self.fails(self.walk, self.parts, self.depths[:place] + [(folded, wrong)] + self.depths[place + 1:])
        self.fails(self.walk, self.parts, [(fold_of("ra", 0), False)] + self.depths[1:])
        self.fails(self.walk, self.parts, [self.depths[0], (fold_of("rb", 0), True)] + self.depths[2:])

    def test_one_too_many(self):
        for place, (folded, depth) in enumerate(self.depths):
            self.fails(self.walk, self.parts, self.depths[:place] + [(folded, depth + 1)] + self.depths[place + 1:])

    def test_one_too_few(self):
        for place in (1, 2):
            folded, depth = self.depths[place]
            self.fails(self.walk, self.parts, self.depths[:place] + [(folded, depth - 1)] + self.depths[place + 1:])
        # From the last room nothing leads on, so a smaller number than its own shows as much.
        self.holds(self.walk, self.parts, self.depths[:3] + [(fold_of("rc", 0), 1)])
        self.holds(self.walk, self.parts, self.depths[:3] + [(fold_of("rc", 0), 0)])

    def test_a_fold_twice(self):
        for folded, depth in self.depths:
            for number in (0, depth, depth + 1, 7):
                self.fails(self.walk, self.parts, self.depths + [(folded, number)])

    def test_a_fold_left_out(self):
        for place in range(4):
            self.fails(self.walk, self.parts, self.depths[:place] + self.depths[place + 1:])

    def test_folds_beyond_what_is_needed(self):
        self.holds(self.walk, self.parts, self.depths + [(fold_of("ra", 1), 2)])
        self.holds(self.walk, self.parts, self.depths + [(fold_of("ra", 1), 9)])
        self.fails(self.walk, self.parts, self.depths + [(fold_of("ra", 1), 0)])
        self.fails(self.walk, self.parts, self.depths + [(fold_of("ra", 2), 9)])

    def test_a_fold_at_which_the_wish_is_met(self):
        for number in (0, 2, 3, 9):
            self.fails(self.walk, self.parts, self.depths + [(fold_of("rc", 1), number)])

    def test_the_stands_fold_with_another_number(self):
        for number in (1, 2, 3):
            self.fails(self.walk, self.parts, [(fold_of("ra", 0), number)] + self.depths[1:])
        self.fails([ON], [ME], [(((ME, "ra"),), 1)], wish=At("me", "rb"))
        self.fails([ON], [ME], [], wish=At("me", "rb"))
        self.holds([ON], [ME], [(((ME, "ra"),), 0)], wish=At("me", "rb"))

    def test_folds_that_are_none(self):
        for wrong in (fold_of("nobody", 0), fold_of("bag", 0), fold_of("ra", 2), fold_of("ra", 0)[::-1], (),
            fold_of("ra", 0, 0),
                      fold_of("ra", False), self.stand, list(fold_of("ra", 1)), None):
            for number in (0, 2, 9):
                self.fails(self.walk, self.parts, self.depths + [(wrong, number)])

    def test_parts(self):
        for parts in ([BELL, ME], [ME, ME, BELL], [ME, BELL, BELL], [ME], [BELL], []):
            self.fails(self.walk, parts, self.depths)
            depths = {tuple((part, dict(folded)[part]) for part in parts): depth for folded, depth in self.depths}
            self.fails(self.walk, parts, list(depths.items()))
        for part in (("at", "ra"), ("mark", "me"), ("at", "bell"), None, "at"):
            self.fails(self.walk, [ME, part, BELL], self.depths)

    def test_more_parts_than_the_least(self):
        depths = [(folded + ((ROPE, 0),), depth) for folded, depth in self.depths]
        self.holds(self.walk, [ME, BELL, ROPE], depths)
        self.fails(self.walk, [ME, BELL, ROPE], self.depths)
        parts = self.world.parts()
        depths = depths_by_stands(self.world, self.stand, 5000)
        nearer = [(stand, depth) for stand, depth in depths.items() if depth < 3]
        self.holds(self.walk, parts, nearer)
        self.fails(self.walk, parts, nearer[:-1])
        self.fails(self.walk, [("at", "bag")] + self.parts, [])

    def test_no_commands(self):
        met = lifted(self.world, fold_of("rc", 1))
        self.holds([], self.parts, [], stand=met)
        self.fails([], self.parts, [])
        # Folds that aren't asked for are looked at, but nothing is asked of where they lead.
        self.holds([], self.parts, [(fold_of("ra", 0), 0)], stand=met)
        self.holds([], self.parts, self.depths, stand=met)
        self.fails([], self.parts, [(fold_of("rc", 1), 0)], stand=met)
        self.fails([], self.parts, [(fold_of("ra", 0), -1)], stand=met)
        for parts in ([ME], [BELL, ME], [ME, ME, BELL], [ME, BELL, BELL], [ME, BELL, ("at", "ra")]):
            self.fails([], parts, [], stand=met)
        self.fails([ON], self.parts, [], stand=met)
        self.fails([WAIT], self.parts, [], stand=met)
        self.fails([WAIT], self.parts, [(fold_of("rc", 1), 0)], stand=met)

    def test_the_paper_stays(self):
        paper = (list(self.walk), list(self.parts), list(self.depths))
        expected = copy.deepcopy(paper)
        self.holds(*paper)
        self.assertEqual(paper, expected)

    def test_what_is_no_wish(self):
        self.refuses_what_is_no_wish((self.walk, self.parts, self.depths))


def are_right_folds(world, parts, folds):
    return all(tuple(part for part, value in one) == tuple(parts) and is_stand(world,
        lifted(world, one)) for one in folds)


def folds_behind(world, parts, folded):
    return [fold(step(world, lifted(world, folded), command)[1], parts) for command in commands(world)]


def is_met(world, wish, folded):
    return wish.holds(world, lifted(world, folded), None)


def never_by_the_words(world, stand, wish, parts, folds):
    """Point 33, of papers whose things are of the kinds told."""
    return (
        parts == sorted(set(parts)) and set(parts) <= set(world.parts()) and is_closed(world, wish, parts)
        and are_right_folds(world, parts, folds) and fold(stand, parts) in folds
        and not any(is_met(world, wish, one) for one in folds)
        and all(behind in folds for one in set(folds) for behind in folds_behind(world, parts, one))
    )


def rows_by_the_words(world, stand, wish, walk, parts, depths):
    """Point 34, of papers whose things are of the kinds told."""
    folds = [folded for folded, depth in depths]
    numbers = dict(depths)
    if not (set(walk) <= set(commands(world)) and parts == sorted(set(parts)) and set(parts) <= set(world.parts())
            and is_closed(world, wish, parts) and are_right_folds(world, parts, folds) and len(set(folds)) == len(folds)
            and min(numbers.values(), default=0) >= 0 and (not walk or numbers.get(fold(stand, parts)) == 0)
            and not any(is_met(world, wish, one) for one in folds)):
        return False
    for folded, depth in depths:
        if depth + 1 < len(walk):
            if not all(numbers.get(behind, depth + 2) <= depth + 1 for behind in folds_behind(world, parts, folded)):
                return False
    for command in walk:
        answer, stand = step(world, stand, command)
        if answer[0] != "told":
            return False
    return wish.holds(world, stand, None)


class Drawn(unittest.TestCase):
    """Papers that find told, and such with something changed, held against the words and against all stands."""

    def drawn(self):
        for number, world in enumerate(drawn_worlds(55, 60)):
            depths = depths_by_stands(world, first_stand(world), 150)
            if depths is not None:
                for wish in drawn_wishes(world, number, 4):
                    yield world, wish, fewest(world, wish, depths), find(world, first_stand(world), wish, 500)

    def changed_fold(self, draw, world, folded):
        place = draw.randrange(len(folded))
        part = folded[place][0]
        return folded[:place] + ((part, drawn_value(draw, world, part)),) + folded[place + 1:]

    def changed_folds(self, draw, world, parts, folds):
        folds = list(folds)
        how = draw.randrange(4)
        if how == 0 and folds:
            folds.pop(draw.randrange(len(folds)))
        if how == 1 and folds and parts:
            place = draw.randrange(len(folds))
            folds[place] = self.changed_fold(draw, world, folds[place])
        if how == 2 and folds and parts:
            folds.append(self.changed_fold(draw, world, draw.choice(folds)))
        return folds

    def changed_parts(self, draw, world, parts):
        if draw.random() < 0.7:
            return parts
        return sorted(draw.sample(world.parts(), draw.randint(0, len(world.parts()))))

    def test_never(self):
        draw = random.Random(1)
        held = {True: 0, False: 0}
        for world, wish, count, told in self.drawn():
            stand = first_stand(world)
            if told[0] == "never":
                self.assertIs(never_holds(world, stand, wish, told[1:]), True)
            for number in range(6):
                parts = self.changed_parts(draw, world, matters(world, wish))
                base = told[2] if told[0] == "never" else [pair[0] for pair in told[3]]
                folds = [fold(lifted(world, one), parts) for one in base]
                for change in range(draw.randrange(3)):
                    folds = self.changed_folds(draw, world, parts, folds)
                holds = never_holds(world, stand, wish, (parts, folds))
                self.assertIs(holds, never_by_the_words(world, stand, wish, parts, folds))
                if holds:
                    self.assertIsNone(count)
                held[holds] += 1
        self.assertGreater(min(held.values()), 40)

    def test_rows(self):
        draw = random.Random(2)
        held = {True: 0, False: 0}
        for world, wish, count, told in self.drawn():
            stand = first_stand(world)
            if told[0] == "rows":
                self.assertIs(rows_hold(world, stand, wish, told[1:]), True)
            for number in range(6):
                parts = self.changed_parts(draw, world, matters(world, wish))
                base = told[3] if told[0] == "rows" else [(one, 0) for one in told[2]]
                depths = {fold(lifted(world, one), parts): depth for one, depth in base}
                folds = list(depths)
                for change in range(draw.randrange(2)):
                    folds = self.changed_folds(draw, world, parts, folds)
                depths = [(one, max(0, depths.get(one, 1) + draw.choice([0] * 30 + [-1, 1]))) for one in folds]
                walk = list(told[1]) if told[0] == "rows" else []
                for change in range(draw.choice([0, 0, 1])):
                    walk.insert(draw.randint(0, len(walk)), draw.choice(commands(world)))
                holds = rows_hold(world, stand, wish, (walk, parts, depths))
                self.assertIs(holds, rows_by_the_words(world, stand, wish, walk, parts, depths))
                if holds:
                    self.assertEqual(len(walk), count)
                held[holds] += 1
        self.assertGreater(min(held.values()), 40)


if __name__ == "__main__":
    unittest.main()
