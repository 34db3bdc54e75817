"""Points 5, 38, 39 and 40: vocabularies, where two worlds part, and ties."""

import copy
import random
import unittest

from cellar import ORDER, cellar_parts, cellar_world, random_stands, stand_where
from drawn import drawn_stands, drawn_worlds
from lane import lane_world, marks_of
from strange import strange_values
from tellworld.asks import At, Has, Marked
from tellworld.deeds import Move, Put
from tellworld.errors import NoWorld, Unlike
from tellworld.players import Player
from tellworld.reading import own_row
from tellworld.rules import Rule
from tellworld.seeing import seen
from tellworld.stands import first_stand, is_stand, with_part
from tellworld.steps import commands, step
from tellworld.things import Mark, Thing, Verb
from tellworld.ties import answer_alike, parted, tie_holds
from tellworld.worlds import World

ON, BACK, RING, WAIT = ("go", "on", None), ("go", "back", None), ("ring", None, None), ("wait", None, None)


class Vocabularies(unittest.TestCase):
    def setUp(self):
        self.one = cellar_world()

    def asked(self, one, other, pairs):
        first = (first_stand(one), first_stand(other))
        return [
            lambda: answer_alike(one, first[0], other, first[1]), lambda: parted(one, other, 3),
            lambda: tie_holds(one, other, pairs), lambda: tie_holds(one, other, [first]),
        ]

    def unlike(self, **changes):
        other = cellar_world(**changes)
        for pair in ((self.one, other), (other, self.one)):
            for asked in self.asked(*pair, []):
                with self.subTest(changes=list(changes)), self.assertRaises(Unlike) as refusal:
                    asked()
                self.assertIs(refusal.exception.__class__, Unlike)
                self.assertEqual(vars(refusal.exception), {})

    def like(self, **changes):
        other = cellar_world(**changes)
        for pair in ((self.one, other), (other, self.one)):
            for asked in self.asked(*pair, []):
                with self.subTest(changes=list(changes)):
                    self.assertIn(asked().__class__, (bool, tuple))

    def things(self, **changes):
        """The things of the cellar, but for the fields given by name."""
        made = []
        for thing in cellar_parts()["things"]:
            fields = {"name": thing.name, "words": thing.words, "kind": thing.kind, "start": thing.start}
            fields.update(changes.get(thing.name, {}))
            made.append(Thing(*fields.values()))
        return made

    def test_the_same(self):
        self.like()

    def test_names_of_things(self):
        self.unlike(things=self.things(coin={"name": "penny"}))
        self.unlike(things=self.things(hall={"name": "nave"}, chest={"start": "nave"}, me={"start": "nave"}), ways=[])
        self.unlike(things=self.things(me={"name": "you"}, bag={"start": "you"}))

    def test_words(self):
        self.unlike(things=self.things(coin={"words": ("penny",)}))
        self.unlike(things=self.things(coin={"words": ("coin", "small")}))
        self.unlike(things=self.things(chest={"words": ("chest", "oak")}))
        self.unlike(things=self.things(chest={"words": ("chest",)}))
        self.unlike(things=self.things(hall={"words": ("nave",)}))
        self.unlike(things=self.things(me={"words": ("self",)}))

    def test_the_order_of_things(self):
        things = self.things()
        self.unlike(things=things[::-1])
        self.unlike(things=things[1:] + things[:1])
        self.unlike(things=things[:-2] + things[:-3:-1])

    def test_more_things(self):
        self.unlike(things=self.things() + [Thing("rope", ("rope",), "plain", "hall")])
        self.unlike(things=self.things() + [Thing("attic", ("attic",), "room")])
        self.unlike(things=self.things()[:-1])

    def test_being_room_you_or_neither(self):
        self.unlike(things=self.things(altar={"kind": "room", "start": None}))
        self.unlike(things=self.things(me={"kind": "box"}, altar={"kind": "you", "start": "hall"}))
        self.unlike(things=self.things(me={"kind": "room", "start": None}, hall={"kind": "you", "start": "cellar"},
                                       chest={"start": "me"}), ways=[])

    def test_verbs(self):
        verbs = cellar_parts()["verbs"]
        for place, changed in (
            (0, Verb("pat")), (0, Verb("rub", ("pat",))), (0, Verb("rub", (), "alone")), (0, Verb("rub", (), "way")),
            (0, Verb("rub", (), "two", "to")), (1, Verb("tie", ("bind",), "two", "onto")),
            (1, Verb("tie", (), "two", "to")),
            (1, Verb("tie", ("knot",), "two", "to")), (1, Verb("bind", ("tie",), "two", "to")),
            (1, Verb("tie", ("bind", "knot"), "two", "to")), (2, Verb("climb", (), "alone")),
            (3, Verb("hum", (), "alone")),
        ):
            self.unlike(verbs=verbs[:place] + [changed] + verbs[place + 1:])
        self.unlike(verbs=verbs[1:] + verbs[:1])
        self.unlike(verbs=verbs[:-1])
        self.unlike(verbs=[])
        self.unlike(verbs=verbs + [Verb("hum", (), "alone")])

    def test_the_order_of_other_names(self):
        verbs = cellar_parts()["verbs"]
        self.one = cellar_world(verbs=[Verb("rub", ("pat", "stroke"))] + verbs[1:])
        self.like(verbs=[Verb("rub", ("pat", "stroke"))] + verbs[1:])
        self.unlike(verbs=[Verb("rub", ("stroke", "pat"))] + verbs[1:])

    def test_words_of_ways(self):
        self.unlike(ways=[])
        self.unlike(ways=[("hall", "down", "cellar", "door")])
        self.unlike(ways=[("hall", "down", "cellar", "door"), ("cellar", "out", "hall", None)])
        self.unlike(ways=cellar_parts()["ways"] + [("hall", "west", "hall", None)])

    def test_ways_may_differ(self):
        self.like(ways=cellar_parts()["ways"][::-1])
        self.like(ways=[("hall", "up", "hall", "tide"), ("hall", "down", "hall", None)])
        self.like(ways=cellar_parts()["ways"] + [("cellar", "down", "cellar", "chest"), ("hall", "up", "hall", None)])

    def test_starts_may_differ(self):
        self.like(things=self.things(coin={"start": "hall"}))
        self.like(things=self.things(me={"start": "cellar"}, tin={"start": "me"}))

    def test_kinds_may_differ(self):
        for kind in ("plain", "fixed", "box", "lamp"):
            self.like(things=self.things(altar={"kind": kind}))
        self.like(things=self.things(torch={"kind": "box"}, coin={"kind": "lamp"}))

    def test_marks_dark_and_rules_may_differ(self):
        self.like(marks=[], ways=[("hall", "down", "cellar", None), ("cellar", "up", "hall", None)])
        self.like(marks=[Mark("door", 1, 2), Mark("moon", 0, 1)])
        self.like(dark=[])
        self.like(dark=["hall", "cellar"])
        self.like(rules=[Rule("rub", [], [], "Rubbed.")])

    def test_unlike_ahead_of_all_else(self):
        other = cellar_world(ways=[])
        for strange in strange_values():
            self.assertRaises(Unlike, answer_alike, self.one, strange, other, strange)
            self.assertRaises(Unlike, parted, self.one, other, strange)
            self.assertRaises(Unlike, tie_holds, self.one, other, strange)


class Alike(unittest.TestCase):
    def test_at_stands_of_one_world(self):
        world = cellar_world()
        first = first_stand(world)
        self.assertIs(answer_alike(world, first, world, first), True)
        self.assertIs(answer_alike(world, first, world, stand_where(world, {"coin": "hall"})), False)
        self.assertIs(answer_alike(world, first, world, stand_where(world, {"coin": "chest"})), True)
        self.assertIs(answer_alike(world, first, world, stand_where(world, None, {"door": 1})), False)
        self.assertIs(answer_alike(world, first, world, stand_where(world, None, {"tide": 0})), True)
        self.assertIs(answer_alike(world, first, world, stand_where(world, None, {"bag": 1})), False)

    def test_answers_of_other_worlds(self):
        one = cellar_world(rules=[Rule("rub", [], [], "Rubbed.")])
        other = cellar_world(rules=[Rule("rub", [Has("it")], [Put("door", 1)], "Rubbed."),
            Rule("rub", [], [], "Rubbed.")])
        # What is answered is alike, though what is done isn't.
        self.assertIs(answer_alike(one, first_stand(one), other, first_stand(other)), True)
        other = cellar_world(rules=[Rule("rub", [], [], "Rubbed.", True)])
        self.assertIs(answer_alike(one, first_stand(one), other, first_stand(other)), False)
        other = cellar_world(rules=[Rule("rub", [], [], "Rubbed!")])
        self.assertIs(answer_alike(one, first_stand(one), other, first_stand(other)), False)

    def test_like_what_is_seen_and_each_step(self):
        world = cellar_world()
        other = cellar_world(rules=[Rule("rub", [Marked("tide", 3)], [], "Rubbed.")], dark=["hall"])
        stands = random_stands(world, 14)
        alike = 0
        for stand in stands:
            for other_stand in stands:
                expected = seen(world, stand) == seen(other, other_stand) and all(
                    step(world, stand, command)[0] == step(other, other_stand,
                    command)[0] for command in commands(world))
                self.assertIs(answer_alike(world, stand, other, other_stand), expected)
                alike += answer_alike(world, stand, world, other_stand)
        self.assertGreaterEqual(alike, len(stands))


class Parted(unittest.TestCase):
    def parts(self, one, other, most, *told):
        for pair in ((one, other), (other, one)):
            found = parted(*pair, most)
            self.assertEqual(found, told)
            self.assertIs(found.__class__, tuple)

    def bell(self, room, text, *more):
        rules = [Rule("ring", [At("me", room)], [], text), Rule("ring", [], [], "Silence.")]
        return lane_world(list(more) + rules)

    def test_at_once(self):
        one = lane_world()
        for rule, command in ((Rule("wait", [], [], "Hm."), WAIT), (Rule("ring", [], [], "Rung."), RING),
                              (Rule("go", [], [], "No.", True), ON)):
            for most in (1, 2, 500):
                found = parted(one, lane_world([rule]), most)
                self.assertEqual((found[0], len(found[1])), ("commands", 1))
                self.parts(one, lane_world([rule]), most, "commands", [command] if command != ON else found[1])

    def test_by_refusing_in_the_same_words(self):
        one = lane_world([Rule("wait", [], [], "Hm.")])
        self.parts(one, lane_world([Rule("wait", [], [], "Hm.", True)]), 1, "commands", [WAIT])

    def test_behind_one_and_behind_several(self):
        for count, room in enumerate(["ra", "rb", "rc", "rd", "re"]):
            one, other = self.bell(room, "Ding."), self.bell(room, "Dong.")
            for most in range(1, 7):
                if most >= count:
                    self.parts(one, other, most, "commands", [ON] * count + [RING])
                else:
                    self.parts(one, other, most, "more")

    def test_never(self):
        one, other = self.bell("rb", "Ding."), self.bell("rb", "Ding.")
        for most in (5, 6, 500):
            told, pairs = parted(one, other, most)
            self.assertEqual(told, "alike")
            rooms = ["ra", "rb", "rc", "rd", "re"]
            self.assertEqual(sorted(pairs), [(stand_where(one, {"me": room}),) * 2 for room in rooms])
            self.assertIs(pairs.__class__, list)
            self.assertIs(tie_holds(one, other, pairs), True)
        for most in (1, 4):
            self.parts(one, other, most, "more")

    def test_rules_that_differ_but_never_show(self):
        one = lane_world([Rule("ring", [], [Put("bell", 1)], "Rung.")], marks_of("bell"))
        other = lane_world([Rule("ring", [], [], "Rung.")], [Mark("gong", 1, 3)])
        told, pairs = parted(one, other, 500)
        self.assertEqual((told, len(pairs)), ("alike", 10))
        self.assertIs(tie_holds(one, other, pairs), True)
        self.assertEqual(parted(one, other, 9), ("more",))
        self.assertEqual(parted(one, other, 10)[0], "alike")

    def test_starts(self):
        one, other = lane_world(), lane_world(start="rb")
        # In the first room there is no way back, in the second one neither.
        self.assertEqual(parted(one, other, 500), ("commands", [ON, BACK]))

    def test_what_is_not_told_in_both_leads_nowhere(self):
        one = self.bell("rb", "Ding.", Rule("go", [], [], "No.", True))
        other = self.bell("rb", "Dong.", Rule("go", [], [], "No.", True))
        told, pairs = parted(one, other, 1)
        self.assertEqual((told, pairs), ("alike", [(first_stand(one), first_stand(other))]))

    def test_what_is_told_otherwise_parts_and_leads_nowhere(self):
        one = self.bell("rb", "Ding.", Rule("go", [At("me", "ra")], [Move("me", "rb")], "Off."))
        other = self.bell("rb", "Dong.")
        found = parted(one, other, 500)
        self.assertEqual(len(found[1]), 1)

    def test_told_lists_are_the_askers_own(self):
        for one, other in ((self.bell("rb", "Ding."), self.bell("rb", "Dong.")), (lane_world(), lane_world())):
            told = parted(one, other, 500)
            expected = copy.deepcopy(told)
            told[1].clear()
            self.assertEqual(parted(one, other, 500), expected)


class Ties(unittest.TestCase):
    def setUp(self):
        """The bell counts how often it was rung in one world, whether it was in the other one."""
        self.one = lane_world([Rule("ring", [], [Put("bell", 1)], "Rung.")], marks_of("bell"), count=3)
        self.other = lane_world([Rule("ring", [], [Put("gong", 2)], "Rung.")], [Mark("gong", 0, 2)], count=3)
        self.pairs = [(self.stand(room, bell), self.other_stand(room, 2 * bell))
                      for room in ("ra", "rb", "rc") for bell in (0, 1)]

    def stand(self, room, bell):
        return stand_where(self.one, {"me": room}, {"bell": bell})

    def other_stand(self, room, gong):
        return stand_where(self.other, {"me": room}, {"gong": gong})

    def holds(self, pairs):
        self.assertIs(tie_holds(self.one, self.other, pairs), True)

    def fails(self, pairs):
        self.assertIs(tie_holds(self.one, self.other, pairs), False)

    def test_what_parted_tells(self):
        told, pairs = parted(self.one, self.other, 6)
        self.assertEqual((told, sorted(pairs)), ("alike", self.pairs))
        self.holds(pairs)

    def test_in_any_order_and_more_than_once(self):
        self.holds(self.pairs)
        self.holds(self.pairs[::-1])
        self.holds(self.pairs + self.pairs[2:])
        self.holds(self.pairs * 3)

    def test_more_pairs(self):
        # Come to by no walk, but closed as it must be: the gong shows 1 in the last two rooms.
        more = [(self.stand(room, 0), self.other_stand(room, 1)) for room in ("rb", "rc")]
        self.holds(self.pairs + more)
        self.fails(self.pairs + more[:1])
        self.fails(self.pairs + more[1:])

    def test_a_pair_left_out(self):
        for pair in self.pairs:
            self.fails([one for one in self.pairs if one != pair])
        self.fails([])

    def test_the_first_pair_left_out(self):
        # Nothing leads back to the first room, so all else is as it must be.
        self.fails([pair for pair in self.pairs if pair[0] != first_stand(self.one)])

    def test_stands_that_are_not_right(self):
        for wrong in (self.stand("ra", 0)[1:], (), "ra", None, list(self.stand("rb", 0)), self.stand("rb", 0)[::-1],
                      self.stand("rb", 2), self.stand("rb", False), self.stand("nobody", 0), self.other_stand("rb", 0)):
            self.fails(self.pairs + [(wrong, self.other_stand("rb", 0))])
            self.fails([(wrong, self.other_stand("ra", 0))] + self.pairs)
        for wrong in (self.other_stand("rb", 3), self.other_stand("rb", True), self.stand("rb", 0), (), None, 0):
            self.fails(self.pairs + [(self.stand("rb", 0), wrong)])

    def test_a_pair_that_answers_otherwise(self):
        self.fails(self.pairs + [(self.stand("rc", 0), self.other_stand("rb", 0))])
        self.fails(self.pairs + [(self.stand("rb", 1), self.other_stand("ra", 2))])

    def test_a_pair_that_leads_out(self):
        self.fails(self.pairs + [(self.stand("ra", 0), self.other_stand("ra", 2))])
        self.fails(self.pairs + [(self.stand("rb", 0), self.other_stand("rb", 1))])

    def test_kinds(self):
        pairs = self.pairs
        self.fails(tuple(pairs))
        self.fails(dict(pairs))
        self.fails([list(pair) for pair in pairs])
        self.fails(pairs + [pairs[0] + (1,)])
        self.fails(pairs + [pairs[0][:1]])
        self.fails(pairs + [pairs[0][::-1]])
        self.fails([pair[::-1] for pair in pairs])
        self.assertIs(tie_holds(self.other, self.one, [pair[::-1] for pair in pairs]), True)
        self.fails(("alike", pairs))

    def test_anything_at_all(self):
        for strange in strange_values():
            self.fails(strange)
            self.fails([strange])
            self.fails(self.pairs + [strange])
            self.fails(self.pairs + [(strange, strange)])
            self.fails(self.pairs + [(self.stand("ra", 0), strange)])
            self.fails(self.pairs + [(strange, self.other_stand("ra", 0))])
            place = self.stand("ra", 0)
            for wrong in (with_part(place, ("at", "me"), strange), (strange,) + place[1:],
                ((strange, "ra"),) + place[1:],
                          ((("at", strange), "ra"),) + place[1:]):
                self.fails(self.pairs + [(wrong, self.other_stand("ra", 0))])

    def test_the_list_stays(self):
        pairs = list(self.pairs)
        self.holds(pairs)
        self.assertEqual(pairs, self.pairs)


def varied(draw, world):
    """A world of the same vocabulary with something changed, or None."""
    made = dict(zip(ORDER, ([world.thing_of(name) for name in world.names()], world.own_marks(), world.dark_rooms(),
                            world.own_ways(), world.own_verbs(), world.own_rules())))
    how = draw.choice(["dark", "rules", "rule", "text", "text", "text", "ways", "marks", "things", "none"])
    if how == "dark":
        made["dark"] = [name for name in world.of_kind("room") if draw.random() < 0.5]
    if how == "rules" and made["rules"]:
        made["rules"].pop(draw.randrange(len(made["rules"])))
    if how == "rule" and made["rules"]:
        old = made["rules"].pop()
        made["rules"].append(Rule(old.verb, old.tests[1:], old.deeds, old.text, old.refuses))
    if how == "text" and made["rules"]:
        place = draw.randrange(len(made["rules"]))
        old = made["rules"][place]
        made["rules"][place] = Rule(old.verb, old.tests, old.deeds, "Otherwise.", old.refuses)
    if how == "marks":
        made["marks"] = [Mark(mark.name, draw.randint(0, mark.most), mark.most) for mark in made["marks"]]
    if how == "ways":
        draw.shuffle(made["ways"])
    if how == "things":
        made["things"] = [Thing(one.name, one.words, draw.choice(["plain", "fixed"]), one.start)
                          if one.kind in ("plain", "fixed") else one for one in made["things"]]
    try:
        return World(*made.values())
    except NoWorld:
        return None


def parted_by_the_words(one, other, most):
    """What point 39 tells of where two worlds part: n or None, and the pairs with their fewest commands."""
    first = (first_stand(one), first_stand(other))
    depths, count = {first: 0}, None
    waiting = [first]
    for pair in waiting:
        for command in commands(one):
            answer, stand = step(one, pair[0], command)
            other_answer, other_stand = step(other, pair[1], command)
            if answer != other_answer:
                count = min(depths[pair] + 1, count or depths[pair] + 1)
            elif answer[0] == "told" and (stand, other_stand) not in depths:
                depths[(stand, other_stand)] = depths[pair] + 1
                waiting.append((stand, other_stand))
        if len(depths) > most:
            return None
    return (count, depths)


class Drawn(unittest.TestCase):
    def drawn(self):
        draw = random.Random(12)
        for one in drawn_worlds(113, 120):
            other = varied(draw, one)
            if other is not None:
                yield one, other

    def test_parted(self):
        sorts = {"alike": 0, 1: 0, 2: 0, 3: 0}
        for one, other in self.drawn():
            expected = parted_by_the_words(one, other, 100)
            if expected is not None:
                self.is_parted(one, other, *expected)
                sorts["alike" if expected[0] is None else min(expected[0], 3)] += 1
        self.assertGreater(min(sorts.values()), 1)

    def is_parted(self, one, other, count, depths):
        if count is None:
            told, pairs = parted(one, other, len(depths))
            self.assertEqual((told, sorted(pairs)), ("alike", sorted(depths)))
            self.assertIs(tie_holds(one, other, pairs), True)
            self.assertEqual(parted(one, other, len(depths) - 1), ("more",))
            return
        nearer = len([pair for pair, depth in depths.items() if depth < count - 1])
        for most in (max(1, nearer), nearer + 1, 500):
            told, walk = parted(one, other, most)
            self.assertEqual((told, len(walk)), ("commands", count))
            self.part(one, other, walk)
        if nearer > 1:
            self.assertEqual(parted(one, other, nearer - 1), ("more",))
        self.assertIs(tie_holds(one, other, list(depths)), False)

    def part(self, one, other, walk):
        stand, other_stand = first_stand(one), first_stand(other)
        for command in walk[:-1]:
            answer, stand = step(one, stand, command)
            other_answer, other_stand = step(other, other_stand, command)
            self.assertEqual((answer, answer[0]), (other_answer, "told"))
        self.assertNotEqual(step(one, stand, walk[-1])[0], step(other, other_stand, walk[-1])[0])

    def test_where_a_tie_holds_players_are_answered_alike(self):
        draw = random.Random(3)
        for one, other in self.drawn():
            told = parted(one, other, 60)
            if told[0] == "alike":
                rows = [own_row(one, command) for command in commands(one)] + ["undo", "restart", "old", "take old",
                    "rub small"]
                players = (Player(one), Player(other))
                for count in range(40):
                    row = draw.choice(rows)
                    self.assertEqual(players[0].say(row), players[1].say(row))

    def test_pairs_drawn_at_will(self):
        draw = random.Random(9)
        held = 0
        for number, (one, other) in enumerate(self.drawn()):
            expected = parted_by_the_words(one, other, 60)
            if expected is not None:
                pairs = list(expected[1])
                for count in range(4):
                    tried = [pair for pair in pairs if draw.random() < 0.95]
                    if draw.random() < 0.3:
                        tried.append((draw.choice(drawn_stands(one, number, 2)), draw.choice(pairs)[1]))
                    holds = self.tie_by_the_words(one, other, tried)
                    self.assertIs(tie_holds(one, other, tried), holds)
                    held += holds
        self.assertGreater(held, 10)

    def tie_by_the_words(self, one, other, pairs):
        if (first_stand(one), first_stand(other)) not in pairs:
            return False
        for stand, other_stand in pairs:
            if not is_stand(one, stand) or not is_stand(other, other_stand):
                return False
            if not answer_alike(one, stand, other, other_stand):
                return False
            for command in commands(one):
                if (step(one, stand, command)[1], step(other, other_stand, command)[1]) not in pairs:
                    return False
        return True


if __name__ == "__main__":
    unittest.main()
