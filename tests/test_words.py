import string
import unittest

from strange import EqualToAll, FailsAtEquals
from tellworld.words import is_list_up_to, is_name, is_one_of, is_same_text, is_whole, is_word, words_of

BARRED = ("it", "other", "here", "the", "a", "undo", "restart")
NO_TEXTS = (None, True, False, 0, 1, 7, -1, 1.5, [], ["lamp"], (), ("lamp",), {}, {"lamp": 1}, b"lamp", object())
NO_LETTERS = (
    "",
    " ",
    "Lamp",
    "laMp",
    "lamP",
    "LAMP",
    "lamp1",
    "1",
    "la2mp",
    "oil lamp",
    " lamp",
    "lamp ",
    "oil-lamp",
    "oil_lamp",
    "-",
    "lamp.",
    "lamp\n",
    "\tlamp",
    "l\u00e4mp",
    "\u00e9",
    "\u00df",
    "lam\u0440",
    "`",
    "{",
    "@",
    "[",
)


class SmallLetters:
    """What is told alike of names and of words."""

    def yes(self, thing):
        with self.subTest(thing=thing):
            self.assertIs(self.ask(thing), True)

    def no(self, thing):
        with self.subTest(thing=thing):
            self.assertIs(self.ask(thing), False)

    def test_each_letter(self):
        for letter in string.ascii_lowercase:
            self.yes("b" + letter)
            if letter != "a":
                self.yes(letter)

    def test_other_signs(self):
        for text in NO_LETTERS:
            self.no(text)

    def test_every_sign_but_small_letters(self):
        for number in range(0, 400):
            if chr(number) not in string.ascii_lowercase:
                self.no("b" + chr(number))

    def test_what_is_no_text(self):
        for thing in NO_TEXTS:
            self.no(thing)


class Names(SmallLetters, unittest.TestCase):
    ask = staticmethod(is_name)

    def test_one_to_eight_letters(self):
        for count in range(1, 9):
            self.yes("b" * count)

    def test_no_signs_or_too_many(self):
        for text in ("", "b" * 9, "b" * 12, "b" * 13, "b" * 1000):
            self.no(text)

    def test_barred(self):
        for text in BARRED:
            self.no(text)

    def test_what_begins_or_ends_with_a_barred_one(self):
        for text in BARRED:
            if len(text) < 8:
                self.yes(text + "z")
                self.yes("z" + text)
        for text in ("item", "bit", "there", "them", "an", "aa", "others", "heres", "undone", "restarts"):
            self.yes(text)

    def test_none_else_is_barred(self):
        for text in ("take", "go", "in", "you", "room", "box", "an", "at", "mark", "none", "not", "this", "that"):
            self.yes(text)


class Words(SmallLetters, unittest.TestCase):
    ask = staticmethod(is_word)

    def test_one_to_twelve_letters(self):
        for count in range(1, 13):
            self.yes("b" * count)

    def test_no_signs_or_too_many(self):
        for text in ("", "b" * 13, "b" * 14, "b" * 1000):
            self.no(text)

    def test_the_and_a(self):
        self.no("the")
        self.no("a")

    def test_what_begins_or_ends_with_the_or_a(self):
        for text in ("them", "bathe", "thea", "athe", "an", "ba", "aa", "aaa", "thethe"):
            self.yes(text)

    def test_barred_names_are_words(self):
        for text in ("it", "other", "here", "undo", "restart"):
            self.yes(text)


class Wholes(unittest.TestCase):
    def test_ints(self):
        for thing in (0, 1, -1, 500, 10**30):
            self.assertIs(is_whole(thing), True)

    def test_truths_and_others(self):
        for thing in (True, False, None, 1.0, "1", [1], (1,), {1: 1}, object()):
            self.assertIs(is_whole(thing), False)


class TextsAndLists(unittest.TestCase):
    def test_same_text(self):
        self.assertIs(is_same_text("lamp", "lamp"), True)
        self.assertIs(is_same_text("lamps", "lamp"), False)
        for thing in NO_TEXTS + (EqualToAll(), FailsAtEquals()):
            self.assertIs(is_same_text(thing, "lamp"), False)

    def test_one_of(self):
        self.assertIs(is_one_of("lamp", ("coin", "lamp")), True)
        self.assertIs(is_one_of("lam", ("coin", "lamp")), False)
        self.assertIs(is_one_of("lamp", []), False)
        for thing in NO_TEXTS + (EqualToAll(), FailsAtEquals()):
            self.assertIs(is_one_of(thing, ("coin", "lamp")), False)

    def test_list_up_to(self):
        for count in range(5):
            self.assertIs(is_list_up_to([None] * count, 3), count <= 3)
        for thing in ((), (1,), "", "lamp", {}, None, 3, object()):
            self.assertIs(is_list_up_to(thing, 3), False)


class WordsOfARow(unittest.TestCase):
    def told(self, row, words):
        with self.subTest(row=row):
            answer = words_of(row)
            self.assertEqual(answer, words)
            self.assertIsInstance(answer, tuple)

    def test_one_blank_between(self):
        self.told("take lamp", ("take", "lamp"))
        self.told("put oil lamp in chest", ("put", "oil", "lamp", "in", "chest"))

    def test_one_word(self):
        self.told("wait", ("wait",))

    def test_more_blanks_between(self):
        self.told("take  lamp", ("take", "lamp"))
        self.told("take     oil   lamp", ("take", "oil", "lamp"))

    def test_blanks_ahead_and_behind(self):
        self.told(" take lamp", ("take", "lamp"))
        self.told("take lamp ", ("take", "lamp"))
        self.told("   take   lamp   ", ("take", "lamp"))

    def test_blanks_alone(self):
        self.told(" ", ())
        self.told("      ", ())

    def test_no_signs(self):
        self.told("", ())

    def test_the_and_a_are_left_out_anywhere(self):
        self.told("take the lamp", ("take", "lamp"))
        self.told("take a lamp", ("take", "lamp"))
        self.told("the take lamp", ("take", "lamp"))
        self.told("a take lamp", ("take", "lamp"))
        self.told("take lamp the", ("take", "lamp"))
        self.told("take lamp a", ("take", "lamp"))
        self.told("the a take the the lamp a a the", ("take", "lamp"))
        self.told(" the   take  a  lamp", ("take", "lamp"))

    def test_the_and_a_alone(self):
        self.told("the", ())
        self.told("a", ())
        self.told("  the a  ", ())

    def test_words_that_begin_or_end_with_them_are_kept(self):
        self.told("them a an the apple", ("them", "an", "apple"))
        self.told("thea bathe ba athe", ("thea", "bathe", "ba", "athe"))

    def test_what_is_no_word_is_kept_as_it_stands(self):
        self.told("Take THE A lamp, 3", ("Take", "THE", "A", "lamp,", "3"))

    def test_same_word_again(self):
        self.told("go go go", ("go", "go", "go"))


if __name__ == "__main__":
    unittest.main()
