import unittest

from lidprice import errors

MADE_OF_NOTHING = ("NoTable", "NoBox", "NoDeed", "NoSets", "NoOffers", "NoRule", "NoRanks", "NoText")
WITH_FIELDS = ("NoPattern", "NoPlan", "TooMany")


class Family(unittest.TestCase):
    def test_lid_error_stands_straight_under_value_error(self):
        self.assertEqual(errors.LidError.__bases__, (ValueError,))

    def test_each_class_stands_straight_under_lid_error(self):
        for name in MADE_OF_NOTHING + WITH_FIELDS:
            with self.subTest(name):
                self.assertEqual(getattr(errors, name).__bases__, (errors.LidError,))

    def test_no_class_is_another_one(self):
        classes = [getattr(errors, name) for name in MADE_OF_NOTHING + WITH_FIELDS]
        self.assertEqual(len(set(classes)), len(classes))
        for one in classes:
            for other in classes:
                self.assertEqual(issubclass(one, other), one is other)


class Making(unittest.TestCase):
    def test_made_of_nothing(self):
        for name in MADE_OF_NOTHING:
            with self.subTest(name), self.assertRaises(errors.LidError):
                raise getattr(errors, name)()

    def test_no_pattern_has_one_and_other(self):
        with self.assertRaises(errors.NoPattern) as caught:
            raise errors.NoPattern(5, 2)
        self.assertEqual((caught.exception.one, caught.exception.other), (5, 2))

    def test_no_plan_has_its_way(self):
        for way in ((), (0,), (1, 0, 3)):
            with self.assertRaises(errors.NoPlan) as caught:
                raise errors.NoPlan(way)
            self.assertEqual(caught.exception.way, way)
            self.assertIs(type(caught.exception.way), tuple)

    def test_too_many_has_how_many(self):
        with self.assertRaises(errors.TooMany) as caught:
            raise errors.TooMany(301)
        self.assertEqual(caught.exception.many, 301)


if __name__ == "__main__":
    unittest.main()
