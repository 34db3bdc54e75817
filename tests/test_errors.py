import unittest

from tellworld.errors import NoCommand, NoText, NoWish, NoWorld, TellError, Unlike

REFUSALS = (NoWorld, NoCommand, NoWish, Unlike, NoText)
WITHOUT_VALUE = (NoWorld, NoCommand, NoWish, Unlike)


class Refusals(unittest.TestCase):
    def test_base_stands_right_under_value_error(self):
        self.assertEqual(TellError.__bases__, (ValueError,))

    def test_each_stands_right_under_the_base(self):
        for refusal in REFUSALS:
            with self.subTest(refusal=refusal):
                self.assertEqual(refusal.__bases__, (TellError,))

    def test_none_stands_under_another_one(self):
        for one in REFUSALS:
            for other in REFUSALS:
                with self.subTest(one=one, other=other):
                    self.assertEqual(issubclass(one, other), one is other)

    def test_each_is_taken_by_the_base(self):
        for refusal in WITHOUT_VALUE:
            with self.subTest(refusal=refusal):
                with self.assertRaises(TellError):
                    raise refusal()
        with self.assertRaises(TellError):
            raise NoText(0)

    def test_names(self):
        self.assertEqual(
            [refusal.__name__ for refusal in REFUSALS],
            ["NoWorld", "NoCommand", "NoWish", "Unlike", "NoText"],
        )

    def test_no_text_bears_its_row(self):
        for row in (0, 1, 27):
            with self.subTest(row=row):
                self.assertEqual(NoText(row).row, row)

    def test_row_is_there_when_it_is_taken(self):
        try:
            raise NoText(5)
        except NoText as refused:
            self.assertEqual(vars(refused), {"row": 5})

    def test_the_others_bear_no_value(self):
        for refusal in WITHOUT_VALUE:
            with self.subTest(refusal=refusal):
                self.assertEqual(vars(refusal()), {})
                self.assertEqual(vars(refusal("in words")), {})
                self.assertFalse(hasattr(refusal(), "row"))


if __name__ == "__main__":
    unittest.main()
