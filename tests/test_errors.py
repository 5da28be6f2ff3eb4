import unittest

from eitherbook.errors import BadLine, BadSay, EmptyBook, FullBook, NoSetting, SayError

FIVE = (BadSay, BadLine, FullBook, EmptyBook, NoSetting)


class ErrorClasses(unittest.TestCase):
    def test_say_error_stands_right_under_value_error(self):
        self.assertEqual(SayError.__bases__, (ValueError,))

    def test_each_stands_right_under_say_error(self):
        for one in FIVE:
            with self.subTest(one=one.__name__):
                self.assertEqual(one.__bases__, (SayError,))

    def test_none_of_the_five_stands_under_another(self):
        for one in FIVE:
            for other in FIVE:
                with self.subTest(one=one.__name__, other=other.__name__):
                    self.assertEqual(issubclass(one, other), one is other)

    def test_each_bears_its_name(self):
        names = [one.__name__ for one in (SayError,) + FIVE]
        self.assertEqual(names, ["SayError", "BadSay", "BadLine", "FullBook", "EmptyBook", "NoSetting"])

    def test_each_is_raised_with_words_and_taken_as_say_error(self):
        for one in FIVE:
            with self.subTest(one=one.__name__):
                with self.assertRaises(SayError) as taken:
                    raise one("some words")
                self.assertEqual(str(taken.exception), "some words")


if __name__ == "__main__":
    unittest.main()
