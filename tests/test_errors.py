import unittest

from corepetals.errors import NoAsk, NoFlower, NoSet, NoSets, PetalError

OF_A_TEXT = (NoFlower, NoSet, NoAsk)
ALL = OF_A_TEXT + (NoSets,)


class Errors(unittest.TestCase):
    def test_all_stand_under_petal_error(self):
        self.assertTrue(issubclass(PetalError, ValueError))
        for kind in ALL:
            self.assertTrue(issubclass(kind, PetalError), kind)

    def test_none_stands_under_another(self):
        for one in ALL:
            self.assertEqual([one], [other for other in ALL if issubclass(one, other)])
            self.assertFalse(issubclass(PetalError, one))

    def test_str_tells_the_text(self):
        for kind in OF_A_TEXT:
            for text in ("", "no flower here", "two\nrows"):
                self.assertEqual(text, str(kind(text)))

    def test_no_sets_keeps_its_row(self):
        for row in (0, 1, 17):
            error = NoSets(row)
            self.assertEqual(row, error.row)
            self.assertIs(int, type(error.row))

    def test_raised_and_taken_by_name(self):
        for error in (NoFlower("a"), NoSet("b"), NoAsk("c"), NoSets(2)):
            with self.assertRaises(PetalError) as caught:
                raise error
            self.assertIs(error, caught.exception)


if __name__ == "__main__":
    unittest.main()
