"""wear_at and extreme_wear: what kinds wear by warmth and wet, against the document's own reckoning."""

import random
import unittest

from lastingly import table
from lastingly.archive import Archive
from lastingly.errors import OutOfPlace
from lastingly.table import extreme_wear, wear_at
from reckoning import pair, table_wear

ROOMS = [("hall", 1, (), ((0, 1, 1),), ())]
KINDS = [
    ("wood", 9, (10, 20, 34), (20, 30, 90), ((5, 8, 1000), (11, 6, 0), (2, 1, 7))),
    ("iron", 9, (15,), (50,), ((7,),)),
    ("wool", 9, (0, 40), (0, 100), ((0, 1000), (1000, 0))),
    ("silk", 9, (3, 8), (50,), ((9,), (4,))),
    ("bone", 9, (15,), (10, 17, 31), ((3, 13, 1),)),
    ("clay", 9, (0, 1, 2, 39, 40), (0, 1, 50, 99, 100), (
        (0, 1000, 0, 1000, 0), (7, 7, 7, 7, 7), (1, 2, 3, 4, 5), (5, 4, 3, 2, 1), (999, 0, 998, 1, 997))),
]
ARCHIVE = Archive(KINDS, ROOMS, [], [], [])
NO_NUMBERS = (None, True, False, "", "5", b"5", 5.0, [5], (5,), {}, -1, object())


class Wear(unittest.TestCase):
    def check(self, kind, warmth, wet, fraction):
        self.assertEqual(wear_at(ARCHIVE, kind, warmth, wet), fraction)

    def test_points(self):
        for kind in KINDS:
            name, _, warmths, wets, lines = kind
            for row, warmth in enumerate(warmths):
                for column, wet in enumerate(wets):
                    self.check(name, warmth, wet, (lines[row][column], 1))

    def test_between_along_the_wet(self):
        self.check("wood", 10, 25, (13, 2))
        self.check("wood", 10, 21, (53, 10))
        self.check("wood", 20, 89, (1, 10))
        self.check("wood", 20, 60, (3, 1))

    def test_between_along_the_warmth(self):
        self.check("wood", 15, 20, (8, 1))
        self.check("wood", 11, 20, (28, 5))
        self.check("wood", 27, 30, (7, 2))
        self.check("wood", 33, 90, (13, 2))

    def test_between_along_both(self):
        self.check("wood", 15, 25, (15, 2))
        self.check("wood", 11, 21, (291, 50))
        self.check("wool", 20, 50, (500, 1))
        self.check("wool", 1, 1, (69, 2))

    def test_ahead_of_the_first_and_behind_the_last(self):
        self.check("wood", 0, 0, (5, 1))
        self.check("wood", 9, 19, (5, 1))
        self.check("wood", 0, 100, (1000, 1))
        self.check("wood", 40, 0, (2, 1))
        self.check("wood", 40, 100, (7, 1))
        self.check("wood", 35, 91, (7, 1))
        self.check("wood", 0, 25, (13, 2))
        self.check("wood", 40, 31, (11, 10))
        self.check("wood", 15, 0, (8, 1))
        self.check("wood", 33, 100, (13, 2))

    def test_one_point(self):
        for warmth, wet in ((0, 0), (15, 50), (40, 100), (0, 100), (40, 0), (14, 51)):
            self.check("iron", warmth, wet, (7, 1))

    def test_one_wet_or_one_warmth(self):
        for wet in (0, 50, 100):
            for warmth, fraction in ((0, (9, 1)), (3, (9, 1)), (4, (8, 1)), (8, (4, 1)), (40, (4, 1))):
                self.check("silk", warmth, wet, fraction)
        for warmth in (0, 15, 40):
            for wet, fraction in ((0, (3, 1)), (11, (31, 7)), (17, (13, 1)), (24, (7, 1)), (31, (1, 1)), (99, (1, 1))):
                self.check("bone", warmth, wet, fraction)

    def test_nought(self):
        self.check("wood", 20, 90, (0, 1))
        self.check("wool", 0, 0, (0, 1))
        self.check("wool", 40, 100, (0, 1))

    def test_all_warmths_and_wets(self):
        for kind in KINDS:
            for warmth in range(41):
                for wet in range(101):
                    self.check(kind[0], warmth, wet, pair(table_wear(kind, warmth, wet)))

    def test_a_tuple_of_whole_numbers(self):
        for warmth, wet in ((10, 20), (15, 25), (0, 100)):
            told = wear_at(ARCHIVE, "wood", warmth, wet)
            self.assertIs(type(told), tuple)
            self.assertEqual([type(number) for number in told], [int, int])


class Extremes(unittest.TestCase):
    def check(self, kind, warmths, wets, *fractions):
        self.assertEqual(extreme_wear(ARCHIVE, kind, warmths, wets), fractions)

    def check_reckoned(self, kind, warmths, wets):
        all_of_them = [table_wear(kind, warmth, wet) for warmth in range(warmths[0], warmths[1] + 1)
                       for wet in range(wets[0], wets[1] + 1)]
        self.check(kind[0], warmths, wets, pair(min(all_of_them)), pair(max(all_of_them)))

    def test_one_number(self):
        self.check("wood", (10, 10), (20, 20), (5, 1), (5, 1))
        self.check("wood", (15, 15), (25, 25), (15, 2), (15, 2))
        self.check("wood", (0, 0), (100, 100), (1000, 1), (1000, 1))
        self.check("wood", (10, 10), (21, 22), (53, 10), (28, 5))
        self.check("wood", (11, 12), (20, 20), (28, 5), (31, 5))

    def test_within_one_cell(self):
        self.check("wood", (11, 19), (21, 29), (291, 50), (499, 50))
        self.check("wool", (10, 30), (10, 30), (300, 1), (700, 1))

    def test_over_several_cells(self):
        self.check("wood", (5, 40), (25, 95), (0, 1), (1000, 1))
        self.check("wood", (12, 38), (10, 40), (1, 1), (419, 3))

    def test_all_there_are(self):
        self.check("wood", (0, 40), (0, 100), (0, 1), (1000, 1))
        self.check("iron", (0, 40), (0, 100), (7, 1), (7, 1))
        self.check("clay", (0, 40), (0, 100), (0, 1), (1000, 1))

    def test_bounds_within_and_not_at_the_ends(self):
        self.check("bone", (0, 40), (11, 30), (13, 7), (13, 1))
        self.check("clay", (0, 0), (2, 98), (0, 1), (48000, 49))
        self.check("clay", (1, 39), (40, 60), (137, 49), (7, 1))

    def test_beyond_the_points(self):
        self.check("wood", (0, 9), (0, 19), (5, 1), (5, 1))
        self.check("wood", (35, 40), (91, 100), (7, 1), (7, 1))
        self.check("wood", (0, 10), (0, 20), (5, 1), (5, 1))

    def test_many_ranges(self):
        chance = random.Random(20)
        for _ in range(40):
            for kind in KINDS:
                warmths = tuple(sorted(chance.choices(range(41), k=2)))
                wets = tuple(sorted(chance.choices(range(101), k=2)))
                self.check_reckoned(kind, warmths, wets)

    def test_narrow_ranges(self):
        for kind in KINDS:
            for warmth in (0, 2, 9, 10, 14, 19, 33, 38):
                for wet in (0, 19, 29, 48, 49, 89, 98):
                    self.check_reckoned(kind, (warmth, warmth + 2), (wet, wet + 2))
                    self.check_reckoned(kind, (warmth, warmth + 1), (wet, wet))

    def test_tuples_within_a_tuple(self):
        told = extreme_wear(ARCHIVE, "wood", (0, 40), (0, 100))
        self.assertEqual([type(part) for part in (told, *told)], [tuple] * 3)


class Refused(unittest.TestCase):
    def refuse(self, function, *handed):
        with self.assertRaises(OutOfPlace):
            function(ARCHIVE, *handed)

    def test_no_kinds(self):
        for thing in ("oak", "hall", "Wood", "", "wood ", None, True, 0, 1, b"wood", ["wood"], ("wood",), {}, KINDS[0]):
            self.refuse(wear_at, thing, 5, 5)
            self.refuse(extreme_wear, thing, (5, 5), (5, 5))
            # Neither when nothing else is as it should be.
            self.refuse(wear_at, thing, None, None)
            self.refuse(extreme_wear, thing, None, None)

    def test_no_numbers(self):
        for thing in NO_NUMBERS:
            self.refuse(wear_at, "wood", thing, 5)
            self.refuse(wear_at, "wood", 5, thing)

    def test_beyond_the_bounds(self):
        for warmth, wet in ((-1, 0), (41, 0), (0, -1), (0, 101), (41, 101), (-1, -1), (100, 0)):
            self.refuse(wear_at, "wood", warmth, wet)
            self.refuse(extreme_wear, "wood", tuple(sorted((warmth, 5))), tuple(sorted((wet, 5))))
        self.assertEqual(wear_at(ARCHIVE, "iron", 40, 100), (7, 1))

    def test_numbers_of_ranges(self):
        for thing in NO_NUMBERS:
            self.refuse(extreme_wear, "wood", (thing, 40), (5, 6))
            self.refuse(extreme_wear, "wood", (0, thing), (5, 6))
            self.refuse(extreme_wear, "wood", (5, 6), (thing, 100))
            self.refuse(extreme_wear, "wood", (5, 6), (0, thing))

    def test_no_tuples_of_two(self):
        for thing in (None, True, 5, "56", "", b"56", [5, 6], (), (5,), (5, 6, 7), {5: 6}, {5: 6, 6: 7}, range(5, 7),
                      ((5, 6),), ((5, 6), (5, 6))):
            self.refuse(extreme_wear, "wood", thing, (5, 6))
            self.refuse(extreme_wear, "wood", (5, 6), thing)

    def test_the_lowest_above_the_highest(self):
        self.refuse(extreme_wear, "wood", (6, 5), (5, 6))
        self.refuse(extreme_wear, "wood", (5, 6), (6, 5))
        self.refuse(extreme_wear, "wood", (40, 0), (0, 100))


class Own(unittest.TestCase):
    def test_what_is_handed_in_stays(self):
        archive = Archive(KINDS, ROOMS, [], [], [])
        warmths, wets = (5, 30), (10, 95)
        wear_at(archive, "wood", 15, 25)
        extreme_wear(archive, "wood", warmths, wets)
        self.assertEqual(archive.told(), (KINDS, ROOMS, [], [], []))
        self.assertEqual((warmths, wets), ((5, 30), (10, 95)))

    def test_told_alike_each_time(self):
        for _ in range(2):
            self.assertEqual(wear_at(ARCHIVE, "wood", 15, 25), (15, 2))
            self.assertEqual(extreme_wear(ARCHIVE, "wool", (10, 30), (10, 30)), ((300, 1), (700, 1)))


class Files(unittest.TestCase):
    def test_all_is_defined_in_its_file(self):
        for function in (wear_at, extreme_wear):
            self.assertEqual(function.__module__, table.__name__)


if __name__ == "__main__":
    unittest.main()
