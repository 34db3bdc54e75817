"""Points 35, 36 and 37: what is left, walkthroughs judged row by row, and where they lose a wish."""

import copy
import random
import unittest

from cellar import cellar_world
from drawn import drawn_wishes, drawn_worlds
from lane import depths_by_stands, fewest, lane_world, marks_of
from strange import strange_values
from tellworld.asks import At, Both, Has, Kind, Lit, Marked, Not
from tellworld.deeds import Move, Put
from tellworld.errors import NoWish
from tellworld.judging import judge, left, lost
from tellworld.players import Player
from tellworld.reading import own_row
from tellworld.rules import Rule
from tellworld.search import find
from tellworld.stands import first_stand
from tellworld.steps import commands
from tellworld.things import Thing, Verb
from tellworld.worlds import World
from wishes import right_wishes, wrong_wishes


def pit_world():
    """What is dropped at the brink falls into the pit, from which nothing comes back; two coins are alike."""
    things = [
        Thing("brink", ("brink",), "room"), Thing("pit", ("pit",), "room"), Thing("camp", ("camp",), "room"),
        Thing("me", ("me",), "you", "brink"), Thing("penny", ("old", "coin"), "plain", "me"),
        Thing("dollar", ("new", "coin"), "plain", "me"),
    ]
    rules = [Rule("drop", [At("me", "brink")], [Move("it", "pit")], "It falls."),
             Rule("spit", [], [], "You spit."), Rule("shout", [], [], "Hush.", True)]
    ways = [("brink", "east", "camp", None), ("camp", "west", "brink", None)]
    return World(things, [], [], ways, [Verb("spit", (), "alone"), Verb("shout", (), "alone")], rules)


class Left(unittest.TestCase):
    def test_in(self):
        world = lane_world()
        for count, room in enumerate(["ra", "rb", "rc", "rd", "re"]):
            told = left(world, first_stand(world), At("me", room), 500)
            self.assertEqual(told, ("in", count))
            self.assertIs(told.__class__, tuple)

    def test_never(self):
        world = lane_world(marks=marks_of("bell"))
        self.assertEqual(left(world, first_stand(world), Marked("bell", 1), 1), ("never",))
        self.assertEqual(left(world, first_stand(world), Kind("me", "box"), 1), ("never",))
        self.assertEqual(left(world, first_stand(world), Both(At("me", "ra"), At("me", "rb")), 5), ("never",))

    def test_more(self):
        world = lane_world()
        self.assertEqual(left(world, first_stand(world), Both(At("me", "ra"), At("me", "rb")), 4), ("more",))
        self.assertEqual(left(world, first_stand(world), At("me", "re"), 3), ("more",))
        self.assertEqual(left(world, first_stand(world), At("me", "re"), 4), ("in", 4))

    def test_just_as_find_tells(self):
        for number, world in enumerate(drawn_worlds(13, 40)):
            for wish in drawn_wishes(world, number, 3):
                for most in (1, 3, 20, 200):
                    found = find(world, first_stand(world), wish, most)
                    expected = ("in", len(found[1])) if found[0] == "rows" else (found[0],)
                    self.assertEqual(left(world, first_stand(world), wish, most), expected)

    def test_right_wishes(self):
        world = cellar_world()
        for wish in right_wishes():
            self.assertIn(left(world, first_stand(world), wish, 20)[0], ("in", "never", "more"))


class Judged(unittest.TestCase):
    def setUp(self):
        self.world = pit_world()
        self.wish = Both(At("penny", "camp"), At("dollar", "camp"))

    def judged(self, rows, *expected, most=500, wish=None):
        told = judge(self.world, rows, wish or self.wish, most)
        self.assertEqual(told, list(expected))
        self.assertIs(told.__class__, list)

    def test_no_rows(self):
        self.judged([])

    def test_told_rows(self):
        self.judged(
            ["go east", "drop the old coin", "drop new coin", "take coin old"],
            (("told", "You go."), ("in", 2)), (("told", "Dropped."), ("in", 1)), (("told", "Dropped."), ("in", 0)),
            (("told", "Taken."), ("in", 1)),
        )

    def test_refused_and_read_to_no_command(self):
        self.judged(
            ["shout", "jump", "", "drop", "go up", "drop pit", "take old coin", "spit", "wait", "drop coin"],
            (("refused", "Hush."), ("in", 3)), (("noverb", "jump"), ("in", 3)), (("noverb", ""), ("in", 3)),
            (("noform", "drop"), ("in", 3)), (("noway", "up"), ("in", 3)), (("none", ("pit",)), ("in", 3)),
            (("refused", "You have that."), ("in", 3)), (("told", "You spit."), ("in", 3)),
            (("told", "Time goes by."), ("in", 3)), (("which", ("coin",), ("dollar", "penny")), ("in", 3)),
        )

    def test_answers_to_questions(self):
        self.judged(
            ["go east", "drop coin", "the new", "old", "drop coin"],
            (("told", "You go."), ("in", 2)), (("which", ("coin",), ("dollar", "penny")), ("in", 2)),
            (("told", "Dropped."), ("in", 1)), (("noverb", "old"), ("in", 1)),
            (("which", ("coin",), ("dollar", "penny")), ("in", 1)),
        )

    def test_lost_and_won_again(self):
        self.judged(
            ["drop old coin", "wait", "undo", "undo", "drop new coin", "restart", "undo", "undo"],
            (("told", "It falls."), ("never",)), (("told", "Time goes by."), ("never",)), (("undone",), ("never",)),
            (("undone",), ("in", 3)), (("told", "It falls."), ("never",)), (("begun",), ("in", 3)),
            (("nothing",), ("in", 3)),
            (("nothing",), ("in", 3)),
        )

    def test_more(self):
        self.judged(["go east", "wait"], (("told", "You go."), ("more",)), (("told", "Time goes by."), ("more",)),
            most=1)

    def test_each_time_from_the_beginning(self):
        for count in range(2):
            self.judged(["go east"], (("told", "You go."), ("in", 2)))

    def test_the_rows_stay_and_the_list_is_the_askers_own(self):
        rows = ["go east", "drop coin", "new"]
        ahead = list(rows)
        told = judge(self.world, rows, self.wish, 500)
        expected = copy.deepcopy(told)
        self.assertEqual(rows, ahead)
        told.clear()
        self.assertEqual(judge(self.world, rows, self.wish, 500), expected)

    def test_like_a_player_and_left(self):
        draw = random.Random(6)
        for number, world in enumerate(drawn_worlds(41, 40)):
            rows = ["undo", "restart", "old", "take old"] + [own_row(world, command) for command in commands(world)]
            said = [draw.choice(rows) for count in range(8)]
            for wish in drawn_wishes(world, number, 2):
                for most in (2, 100):
                    player = Player(world)
                    expected = [(player.say(row), left(world, player.stand(), wish, most)) for row in said]
                    self.assertEqual(judge(world, said, wish, most), expected)
                    self.assertEqual(lost(world, said, wish, most), self.first_never(world, wish, most, expected))

    def first_never(self, world, wish, most, judged):
        if left(world, first_stand(world), wish, most) == ("never",):
            return -1
        numbers = [number for number, (answer, rest) in enumerate(judged) if rest == ("never",)]
        return numbers[0] if numbers else None

    def test_never_and_in_are_true(self):
        for number, world in enumerate(drawn_worlds(43, 20)):
            if depths_by_stands(world, first_stand(world), 120) is not None:
                rows = [own_row(world, command) for command in commands(world)[::3]]
                for wish in drawn_wishes(world, number, 2):
                    player = Player(world)
                    for row, (answer, rest) in zip(rows, judge(world, rows, wish, 500)):
                        self.assertEqual(player.say(row), answer)
                        count = fewest(world, wish, depths_by_stands(world, player.stand(), 500))
                        self.assertEqual(rest, ("never",) if count is None else ("in", count))


class Lost(unittest.TestCase):
    def setUp(self):
        self.world = pit_world()
        self.wish = Both(At("penny", "camp"), At("dollar", "camp"))

    def is_lost(self, rows, number, most=500, wish=None):
        told = lost(self.world, rows, wish or self.wish, most)
        self.assertEqual(told, number)
        self.assertIs(told.__class__, number.__class__)

    def test_by_the_first_such_row(self):
        self.is_lost(["drop old coin"], 0)
        self.is_lost(["wait", "drop old coin", "drop new coin"], 1)
        self.is_lost(["go east", "drop old coin", "go west", "drop new coin", "wait"], 3)

    def test_by_an_answer_to_a_question(self):
        self.is_lost(["drop coin", "old"], 1)
        self.is_lost(["drop coin", "wait", "old"], None)

    def test_not_lost(self):
        self.is_lost([], None)
        self.is_lost(["wait", "jump", "go east", "drop coin", "old", "undo", "restart"], None)

    def test_from_the_beginning(self):
        for rows in ([], ["wait"], ["drop old coin"]):
            self.is_lost(rows, -1, wish=Kind("penny", "box"))
            self.is_lost(rows, -1, wish=Not(Lit()))

    def test_though_undo_wins_it_again(self):
        self.is_lost(["wait", "drop old coin", "undo", "go east", "drop old coin", "drop new coin"], 1)
        self.is_lost(["wait", "drop old coin", "restart"], 1)
        self.is_lost(["drop old coin", "undo", "drop new coin"], 0)

    def test_more_is_not_lost(self):
        self.is_lost(["drop old coin"], None, most=1)
        self.is_lost(["drop old coin", "wait"], None, most=2)

    def test_met_and_then_lost(self):
        rules = [Rule("ring", [], [Put("bell", 1)], "Rung.")]
        world = lane_world(rules, marks_of("bell"))
        wish = Both(Marked("bell", 0), At("me", "rb"))
        self.assertEqual(lost(world, ["go on", "wait", "ring", "go on"], wish, 500), 2)
        self.assertEqual(judge(world, ["go on", "ring"], wish, 500),
                         [(("told", "You go."), ("in", 0)), (("told", "Rung."), ("never",))])

    def test_the_rows_stay(self):
        rows = ["wait", "drop old coin"]
        self.is_lost(rows, 1)
        self.assertEqual(rows, ["wait", "drop old coin"])


class NoWishes(unittest.TestCase):
    def test_refused_by_all(self):
        world = cellar_world()
        for wish in wrong_wishes():
            for asked in (lambda: left(world, first_stand(world), wish, 5), lambda: judge(world, ["wait"], wish, 5),
                          lambda: judge(world, [], wish, 5), lambda: lost(world, ["wait"], wish, 5),
                          lambda: lost(world, [], wish, 5)):
                with self.assertRaises(NoWish) as refusal:
                    asked()
                self.assertIs(refusal.exception.__class__, NoWish)

    def test_ahead_of_all_else(self):
        world = cellar_world()
        for strange in strange_values():
            self.assertRaises(NoWish, judge, world, strange, Has("it"), strange)
            self.assertRaises(NoWish, lost, world, strange, Has("it"), strange)
            self.assertRaises(NoWish, left, world, strange, Has("it"), strange)


if __name__ == "__main__":
    unittest.main()
