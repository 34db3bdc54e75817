"""Points 26, 27 and 28: what a player is answered, what is asked, and the walk."""

import random
import unittest

from cellar import cellar_world
from drawn import drawn_worlds
from parlour import parlour_world
from tellworld.deeds import Move
from tellworld.players import Player
from tellworld.reading import own_row, read
from tellworld.rules import Rule
from tellworld.stands import at_of, first_stand, mark_of
from tellworld.steps import commands, step


class PlayerCase(unittest.TestCase):
    def setUp(self):
        self.world = parlour_world()
        self.player = Player(self.world)

    def says(self, row, *answer, player=None):
        told = (player or self.player).say(row)
        self.assertEqual(told, answer, row)
        self.assertIs(told.__class__, tuple)

    def is_at(self, name, holder, player=None):
        self.assertEqual(at_of((player or self.player).stand(), name), holder)


class Rows(PlayerCase):
    def test_begins_at_the_first_stand(self):
        self.assertEqual(self.player.stand(), first_stand(self.world))
        self.assertEqual(self.player.walk(), [])

    def test_told(self):
        self.says("take the red ball", "told", "Taken.")
        self.is_at("sphere", "me")
        self.says("go up", "told", "You go.")
        self.is_at("me", "loft")
        self.says("drop ball red", "told", "Dropped.")
        self.is_at("sphere", "loft")

    def test_what_is_not_told_leaves_the_stand(self):
        self.says("take red ball", "told", "Taken.")
        stand = self.player.stand()
        for row, answer in (
            ("take red ball", ("refused", "You have that.")),
            ("rub gem", ("refused", "Nothing comes of it.")),
            ("put red chest in red chest", ("refused", "You lack that.")),
            ("jump", ("noverb", "jump")),
            ("", ("noverb", "")),
            ("take", ("noform", "take")),
            ("go sideways", ("noway", "sideways")),
            ("take feather", ("none", ("feather",))),
            ("take dust", ("none", ("dust",))),
            ("take chest", ("which", ("chest",), ("case", "trunk"))),
            ("go down", ("refused", "No way there.")),
        ):
            self.says(row, *answer)
            self.assertEqual(self.player.stand(), stand)

    def test_a_deed_that_cannot_be_done(self):
        world = parlour_world([Rule("rub", [], [Move("it", "it")], "Rubbed.")])
        player = Player(world)
        self.says("rub gem", "refused", "That cannot be.", player=player)
        self.assertEqual(player.stand(), first_stand(world))
        self.assertEqual(player.walk(), [])
        self.says("undo", "nothing", player=player)

    def test_like_read_and_step_over_many_rows(self):
        draw = random.Random(11)
        for world in drawn_worlds(2, 25):
            player = Player(world)
            for count in range(25):
                ahead = player.stand()
                row = own_row(world, draw.choice(commands(world)))
                answer = player.say(row)
                meant = read(world, ahead, row)
                expected = step(world, ahead, meant[1]) if meant[0] == "command" else (meant, ahead)
                self.assertEqual((answer, player.stand()), expected)


class UndoAndRestart(PlayerCase):
    def test_undo(self):
        first = self.player.stand()
        self.says("take red ball", "told", "Taken.")
        self.says("undo", "undone")
        self.assertEqual(self.player.stand(), first)
        self.says("undo", "nothing")
        self.assertEqual(self.player.stand(), first)

    def test_nothing_to_undo(self):
        self.says("undo", "nothing")
        self.says("undo", "nothing")
        self.says("jump", "noverb", "jump")
        self.says("undo", "nothing")
        self.assertEqual(self.player.stand(), first_stand(self.world))

    def test_with_articles_and_blanks(self):
        for row in ("undo", " undo", "undo  ", "the undo", "  a undo the  ", "a the undo"):
            self.says("take red ball", "told", "Taken.")
            self.says(row, "undone")
            self.is_at("sphere", "parlour")
        for row in ("restart", "  restart ", "the restart", "a restart a", "restart the"):
            self.says("take red ball", "told", "Taken.")
            self.says(row, "begun")
            self.is_at("sphere", "parlour")

    def test_more_than_just_the_word(self):
        self.says("take red ball", "told", "Taken.")
        self.says("undo undo", "noverb", "undo")
        self.says("undo take", "noverb", "undo")
        self.says("restart restart", "noverb", "restart")
        self.says("restart game", "noverb", "restart")
        self.says("Undo", "noverb", "Undo")
        self.says("go undo", "noway", "undo")
        self.is_at("sphere", "me")

    def test_several_one_after_the_other(self):
        stands = [self.player.stand()]
        for row in ("take red ball", "go up", "wait", "take white ball", "go down"):
            self.assertEqual(self.player.say(row)[0], "told")
            stands.append(self.player.stand())
        for stand in reversed(stands[:-1]):
            self.says("undo", "undone")
            self.assertEqual(self.player.stand(), stand)
        self.says("undo", "nothing")
        self.assertEqual(self.player.stand(), stands[0])

    def test_undo_and_go_on_and_undo(self):
        self.says("take red ball", "told", "Taken.")
        self.says("go up", "told", "You go.")
        self.says("undo", "undone")
        self.says("drop red ball", "told", "Dropped.")
        self.says("undo", "undone")
        self.is_at("sphere", "me")
        self.says("undo", "undone")
        self.is_at("sphere", "parlour")
        self.says("undo", "nothing")

    def test_behind_rows_that_were_not_told(self):
        self.says("take red ball", "told", "Taken.")
        for row in ("jump", "", "take", "take red ball", "take feather", "take chest", "go away", "rub gem"):
            self.assertNotEqual(self.player.say(row)[0], "told")
        self.says("undo", "undone")
        self.is_at("sphere", "parlour")
        self.says("undo", "nothing")

    def test_waiting_is_undone_too(self):
        self.says("take red ball", "told", "Taken.")
        self.says("wait", "told", "Time goes by.")
        self.says("undo", "undone")
        self.is_at("sphere", "me")
        self.says("undo", "undone")
        self.is_at("sphere", "parlour")

    def test_restart_then_undo(self):
        self.says("take red ball", "told", "Taken.")
        self.says("go up", "told", "You go.")
        self.says("restart", "begun")
        self.assertEqual(self.player.stand(), first_stand(self.world))
        self.says("undo", "nothing")
        self.assertEqual(self.player.stand(), first_stand(self.world))
        self.says("restart", "begun")
        self.says("take red ball", "told", "Taken.")
        self.says("undo", "undone")
        self.says("undo", "nothing")

    def test_two_players_of_one_world(self):
        other = Player(self.world)
        self.says("take red ball", "told", "Taken.")
        self.says("undo", "nothing", player=other)
        self.is_at("sphere", "parlour", player=other)
        self.assertEqual(other.walk(), [])
        self.says("go up", "told", "You go.", player=other)
        self.is_at("me", "parlour")
        self.says("take chest", "which", ("chest",), ("case", "trunk"))
        self.says("red", "noverb", "red", player=other)
        self.says("restart", "begun", player=other)
        self.says("red", "told", "Taken.")
        self.assertEqual(self.player.walk(), [("take", "sphere", None), ("take", "trunk", None)])
        self.assertEqual(other.walk(), [])


class Questions(PlayerCase):
    def asked(self):
        self.says("restart", "begun")
        self.says("take the ball", "which", ("ball",), ("globe", "sphere"))

    def test_an_answer(self):
        self.asked()
        self.says("the red", "told", "Taken.")
        self.is_at("sphere", "me")
        self.assertEqual(self.player.walk(), [("take", "sphere", None)])
        self.asked()
        self.says("  small a blue ", "told", "Taken.")
        self.is_at("globe", "me")

    def test_an_answer_is_undone_as_one_row(self):
        self.asked()
        self.says("red", "told", "Taken.")
        self.says("undo", "undone")
        self.is_at("sphere", "parlour")
        self.says("undo", "nothing")

    def test_an_answer_that_means_none(self):
        self.asked()
        self.says("green", "none", ("ball", "green"))
        self.asked()
        self.says("the red the blue", "none", ("ball", "red", "blue"))
        self.asked()
        # Names of things are no words.
        self.says("sphere", "none", ("ball", "sphere"))
        # What was asked is let go by that.
        self.says("red", "noverb", "red")

    def test_behind_the_first_phrase(self):
        self.says("take gem", "refused", "You have that.")
        self.says("open red chest", "told", "Opened.")
        self.says("take blue ball", "told", "Taken.")
        self.says("put small in the red chest", "which", ("small",), ("globe", "ruby"))
        self.says("gem", "told", "Done.")
        self.is_at("ruby", "trunk")

    def test_behind_the_second_phrase(self):
        self.says("open blue chest", "told", "Opened.")
        self.says("put the gem in the chest", "which", ("chest",), ("case", "trunk"))
        self.says("blue", "told", "Done.")
        self.is_at("ruby", "case")

    def test_the_first_and_then_the_second(self):
        self.says("take blue ball", "told", "Taken.")
        self.says("open blue chest", "told", "Opened.")
        self.says("put ball in chest", "which", ("ball",), ("globe", "sphere"))
        self.says("blue", "which", ("chest",), ("case", "trunk"))
        self.says("blue", "told", "Done.")
        self.is_at("globe", "case")
        self.assertEqual(self.player.walk()[-1], ("put", "globe", "case"))

    def test_both_phrases_of_the_same_words(self):
        self.says("tie ball to ball", "which", ("ball",), ("globe", "sphere"))
        self.says("red", "which", ("ball",), ("globe", "sphere"))
        # The words go behind the second phrase now, whatever the first one has in common with it.
        self.says("blue", "refused", "Nothing comes of it.")
        world = parlour_world([Rule("tie", [], [Move("it", "loft"), Move("other", "me")], "Tied.")])
        player = Player(world)
        self.says("tie ball to ball", "which", ("ball",), ("globe", "sphere"), player=player)
        self.says("red", "which", ("ball",), ("globe", "sphere"), player=player)
        self.says("blue", "told", "Tied.", player=player)
        self.assertEqual(player.walk(), [("tie", "sphere", "globe")])

    def test_the_second_phrase_within_the_first(self):
        world = parlour_world([Rule("tie", [], [], "Tied.")])
        player = Player(world)
        self.says("tie ball red to ball", "which", ("ball",), ("globe", "sphere"), player=player)
        self.says("small", "told", "Tied.", player=player)
        self.assertEqual(player.walk(), [("tie", "sphere", "globe")])

    def test_behind_a_first_phrase_of_several_words(self):
        player = Player(parlour_world([Rule("tie", [], [], "Tied.")]))
        for count in (2, 3, 4):
            balls = " ball" * count
            self.says("tie" + balls + " to gem", "which", ("ball",) * count, ("globe", "sphere"), player=player)
            self.says("red", "told", "Tied.", player=player)
            self.assertEqual(player.walk()[-1], ("tie", "sphere", "ruby"))
            self.says("tie" + balls + " to gem", "which", ("ball",) * count, ("globe", "sphere"), player=player)
            self.says("green", "none", ("ball",) * count + ("green",), player=player)

    def test_asked_anew_of_the_longer_row(self):
        self.says("take red", "which", ("red",), ("ruby", "sphere", "trunk"))
        self.says("red", "which", ("red", "red"), ("ruby", "sphere", "trunk"))
        self.says("the red", "which", ("red", "red", "red"), ("ruby", "sphere", "trunk"))
        self.says("chest", "told", "Taken.")
        self.is_at("trunk", "me")
        self.says("take small", "which", ("small",), ("globe", "ruby"))
        self.says("small", "which", ("small", "small"), ("globe", "ruby"))
        self.says("gem", "refused", "You have that.")

    def test_rows_grow_beyond_any_length(self):
        self.says("take ball", "which", ("ball",), ("globe", "sphere"))
        words = ("ball",)
        for count in range(4):
            words = words + ("ball",) * 39
            self.says("ball " * 39, "which", words, ("globe", "sphere"))
        self.says("red", "told", "Taken.")

    def test_an_answer_with_the_joining_word(self):
        self.says("open blue chest", "told", "Opened.")
        self.says("tie ball to gem", "which", ("ball",), ("globe", "sphere"))
        self.says("red to blue chest", "none", ("blue", "chest", "to", "gem"))
        self.says("tie ball to gem", "which", ("ball",), ("globe", "sphere"))
        self.says("to", "which", ("ball",), ("globe", "sphere"))
        self.says("red", "none", ("to", "gem"))
        self.says("tie gem to chest", "which", ("chest",), ("case", "trunk"))
        self.says("to red", "none", ("chest", "to", "red"))

    def test_by_another_name_of_the_verb(self):
        world = parlour_world([Rule("rub", [], [Move("it", "loft")], "Rubbed.")])
        player = Player(world)
        self.says("pat ball", "which", ("ball",), ("globe", "sphere"), player=player)
        self.says("red", "told", "Rubbed.", player=player)
        self.assertEqual(player.walk(), [("rub", "sphere", None)])

    def test_answers_that_begin_with_a_verb_are_rows_of_their_own(self):
        self.asked()
        self.says("wait", "told", "Time goes by.")
        self.asked()
        self.says("hum", "refused", "Nothing comes of it.")
        self.asked()
        self.says("take red ball", "told", "Taken.")
        self.asked()
        self.says("the take red", "which", ("red",), ("ruby", "sphere", "trunk"))
        self.asked()
        self.says("stroke red", "which", ("red",), ("ruby", "sphere", "trunk"))
        self.says("ball", "refused", "Nothing comes of it.")

    def test_words_that_hold_undo(self):
        self.asked()
        self.says("undo red", "none", ("ball", "undo", "red"))
        self.asked()
        self.says("red restart", "none", ("ball", "red", "restart"))
        self.asked()
        self.says("undo undo", "none", ("ball", "undo", "undo"))

    def test_every_other_row_lets_the_question_go(self):
        for row, answer in (
            ("undo", ("nothing",)),
            ("restart", ("begun",)),
            ("", ("noverb", "")),
            ("  the ", ("noverb", "")),
            ("wait", ("told", "Time goes by.")),
            ("take", ("noform", "take")),
            ("go away", ("noway", "away")),
            ("rub feather", ("none", ("feather",))),
            ("drop red ball", ("refused", "You lack that.")),
        ):
            self.asked()
            self.says(row, *answer)
            self.says("red", "noverb", "red")
            self.is_at("sphere", "parlour")

    def test_undo_of_what_was_told_lets_it_go(self):
        self.says("wait", "told", "Time goes by.")
        self.says("take ball", "which", ("ball",), ("globe", "sphere"))
        self.says("undo", "undone")
        self.says("red", "noverb", "red")

    def test_a_second_row_of_words_is_no_answer(self):
        self.asked()
        self.says("red", "told", "Taken.")
        self.says("blue", "noverb", "blue")
        self.asked()
        self.says("green", "none", ("ball", "green"))
        self.says("blue", "noverb", "blue")

    def test_nothing_asked(self):
        self.says("red", "noverb", "red")
        self.says("take feather", "none", ("feather",))
        self.says("red ball", "noverb", "red")

    def test_the_latest_question_alone(self):
        self.says("take ball", "which", ("ball",), ("globe", "sphere"))
        self.says("take chest", "which", ("chest",), ("case", "trunk"))
        self.says("red", "told", "Taken.")
        self.assertEqual(self.player.walk(), [("take", "trunk", None)])

    def test_the_stand_stays_while_it_is_asked(self):
        self.says("go up", "told", "You go.")
        self.says("go down", "told", "You go.")
        stand = self.player.stand()
        self.says("take ball", "which", ("ball",), ("globe", "sphere"))
        self.assertEqual(self.player.stand(), stand)
        self.assertEqual(self.player.walk(), [("go", "up", None), ("go", "down", None)])


class Walks(PlayerCase):
    def test_told_rows_in_order(self):
        for row in ("take red ball", "pat gem", "go up", "jump", "drop red ball", "", "take feather"):
            self.player.say(row)
        self.assertEqual(self.player.walk(), [("take", "sphere", None), ("go", "up", None), ("drop", "sphere", None)])

    def test_waiting_counts(self):
        for row in ("wait", "the wait", "wait up", "wait"):
            self.player.say(row)
        self.assertEqual(self.player.walk(), [("wait", None, None)] * 3)

    def test_undone_rows_do_not(self):
        for row in ("wait", "go up", "take white ball", "undo", "undo", "take red ball"):
            self.player.say(row)
        self.assertEqual(self.player.walk(), [("wait", None, None), ("take", "sphere", None)])

    def test_since_the_last_restart(self):
        for row in ("wait", "go up", "restart"):
            self.player.say(row)
        self.assertEqual(self.player.walk(), [])
        for row in ("take red ball", "restart", "go up", "undo", "wait"):
            self.player.say(row)
        self.assertEqual(self.player.walk(), [("wait", None, None)])

    def test_a_list_that_was_told_is_the_askers_own(self):
        self.player.say("wait")
        told = self.player.walk()
        told.append(("go", "up", None))
        told[0] = None
        self.assertEqual(self.player.walk(), [("wait", None, None)])
        self.says("undo", "undone")
        self.assertEqual(self.player.walk(), [])
        earlier = self.player.walk()
        self.player.say("wait")
        self.assertEqual(earlier, [])

    def test_the_walk_leads_to_the_stand(self):
        draw = random.Random(4)
        for world in drawn_worlds(9, 25):
            player = Player(world)
            rows = [own_row(world, command) for command in commands(world)] + ["undo"] * 6
            rows.extend(["restart", "old", "take old"])
            for count in range(30):
                player.say(draw.choice(rows))
                stand = first_stand(world)
                for command in player.walk():
                    answer, stand = step(world, stand, command)
                    self.assertEqual(answer[0], "told")
                self.assertEqual(player.stand(), stand)

    def test_marks(self):
        player = Player(cellar_world())
        self.says("open bag", "told", "Opened.", player=player)
        self.assertEqual(mark_of(player.stand(), "bag"), 1)
        self.says("undo", "undone", player=player)
        self.assertEqual(mark_of(player.stand(), "bag"), 0)


if __name__ == "__main__":
    unittest.main()
