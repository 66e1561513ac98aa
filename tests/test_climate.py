"""Readings, boxes, and what is worn in hours and spans, against a sum hour by hour."""

import random
import unittest

from lastingly import climate
from lastingly.archive import Archive
from lastingly.climate import hour_wear, lacking_rows, reading_at, span_wear, wet_in
from lastingly.errors import Lacking, OutOfPlace
from made import made
from reckoning import lacks, pair, reading, room_wear, span

DAY = 24
YEAR = 365 * DAY
LAST = 1000000000
KINDS = [
    ("wood", 1000, (10, 20), (20, 60, 90), ((5, 8, 100), (11, 6, 0))),
    ("iron", 9, (15,), (50,), ((7,),)),
]
ROOMS = [
    ("hall", 3, (), ((0, 18, 50), (6, 20, 40), (23, 5, 95)), ((10, -3, 4), (100, 30, 60), (364, -40, -100))),
    ("loft", 0, ("iron",), ((0, 12, 34),), ()),
    ("den", 1, (), ((0, 18, 50), (12, None, 60), (18, 20, None), (20, 1, 1), (21, None, None)), ((9, 1, 1),)),
    ("mine", 1, (), ((0, 1, 2),), ((0, 39, 98),)),
    ("barn", 1, (), ((0, 1, 2),), ((200, 2, -1),)),
]
BOXES = [("chest", 40, 60), ("case", 50, 50), ("bag", 0, 100)]
ARCHIVE = Archive(KINDS, ROOMS, BOXES, [], [])
NO_HOURS = (-1, LAST + 1, None, True, False, "", "5", b"5", 5.0, [5], (5,), {}, object())
NO_NAMES = ("oak", "", "Hall", "hall ", None, True, 0, 1, b"hall", ["hall"], ("hall",), {}, ROOMS[0], object())


class Readings(unittest.TestCase):
    def check(self, room, hour, warmth, wet):
        self.assertEqual(reading_at(ARCHIVE, room, hour), (warmth, wet))

    def test_rows_of_the_day(self):
        day = 20 * DAY
        for hour, warmth, wet in ((0, 15, 54), (5, 15, 54), (6, 17, 44), (7, 17, 44), (22, 17, 44), (23, 2, 99)):
            self.check("hall", day + hour, warmth, wet)
        self.check("hall", day + DAY, 15, 54)

    def test_one_row(self):
        for hour in (0, 1, 23, 24, YEAR - 1, YEAR, LAST):
            self.check("loft", hour, 12, 34)

    def test_seasons(self):
        self.check("hall", 10 * DAY, 15, 54)
        self.check("hall", 100 * DAY - 1, 2, 99)
        self.check("hall", 100 * DAY, 40, 100)
        self.check("hall", 364 * DAY - 1, 35, 100)
        self.check("hall", 364 * DAY, 0, 0)

    def test_ahead_of_the_first_season_that_of_the_last_one(self):
        self.check("hall", 0, 0, 0)
        self.check("hall", 10 * DAY - 1, 0, 0)
        self.check("barn", 0, 3, 1)
        self.check("barn", 200 * DAY - 1, 3, 1)
        self.check("barn", 200 * DAY, 3, 1)

    def test_turns_of_years(self):
        for year in (1, 2, 3, 100000):
            self.check("hall", year * YEAR - 1, 0, 0)
            self.check("hall", year * YEAR, 0, 0)
            self.check("hall", year * YEAR + 10 * DAY - 1, 0, 0)
            self.check("hall", year * YEAR + 10 * DAY, 15, 54)
            self.check("hall", year * YEAR - DAY - 1, 35, 100)

    def test_brought_back_within_the_bounds(self):
        self.check("mine", 0, 40, 100)
        self.check("hall", 364 * DAY + 23, 0, 0)
        self.check("hall", 100 * DAY + 6, 40, 100)
        self.check("hall", 100 * DAY + 23, 35, 100)

    def test_the_last_hour(self):
        self.assertEqual((LAST // DAY % 365, LAST % DAY), (91, 16))
        self.check("hall", LAST, 17, 44)

    def test_by_the_document(self):
        chance = random.Random(30)
        for _ in range(60):
            archive = made(chance)
            for room in archive.told()[1]:
                for hour in chance.sample(range(3 * YEAR), 60) + [0, YEAR - 1, YEAR, LAST]:
                    told = reading_at(archive, room[0], hour)
                    self.assertEqual(told, reading(room, hour))
                    self.assertEqual([type(part) for part in (told, *told)], [tuple, int, int])


class Boxes(unittest.TestCase):
    def test_brought_within_the_box(self):
        for box, wet, within in (("chest", 39, 40), ("chest", 40, 40), ("chest", 41, 41), ("chest", 60, 60),
                                 ("chest", 61, 60), ("chest", 0, 40), ("chest", 100, 60), ("case", 0, 50),
                                 ("case", 50, 50), ("case", 100, 50), ("bag", 0, 0), ("bag", 100, 100)):
            self.assertEqual(wet_in(ARCHIVE, box, wet), within)

    def test_no_box(self):
        for wet in range(101):
            self.assertEqual(wet_in(ARCHIVE, "", wet), wet)

    def test_the_warmth_stays_in_a_box(self):
        hour = 20 * DAY + 23
        self.assertEqual(hour_wear(ARCHIVE, "wood", "hall", "chest", hour), (8, 1))
        self.assertEqual(hour_wear(ARCHIVE, "wood", "hall", "case", hour), pair(room_wear(
            ARCHIVE, "wood", "hall", "case", hour)))
        self.assertEqual(hour_wear(ARCHIVE, "wood", "hall", "", hour), (100, 1))

    def test_refused(self):
        for box in NO_NAMES:
            if box != "":
                with self.assertRaises(OutOfPlace):
                    wet_in(ARCHIVE, box, 5)
        for wet in (-1, 101, None, True, False, "", "5", 5.0, [5], (5,), {}):
            for box in ("", "chest"):
                with self.assertRaises(OutOfPlace):
                    wet_in(ARCHIVE, box, wet)


class Wear(unittest.TestCase):
    def test_hours(self):
        self.assertEqual(hour_wear(ARCHIVE, "iron", "hall", "", 5), (7, 1))
        self.assertEqual(hour_wear(ARCHIVE, "wood", "hall", "", 0), (5, 1))
        self.assertEqual(hour_wear(ARCHIVE, "wood", "hall", "", 100 * DAY), (0, 1))
        self.assertEqual(hour_wear(ARCHIVE, "wood", "loft", "", LAST), pair(room_wear(
            ARCHIVE, "wood", "loft", "", LAST)))

    def test_a_room_wears_kinds_that_it_does_not_take(self):
        self.assertEqual(span_wear(ARCHIVE, "wood", "loft", "", 3, 5), pair(span(ARCHIVE, "wood", "loft", "", 3, 5)))

    def test_hours_by_the_document(self):
        chance = random.Random(31)
        for _ in range(60):
            archive = made(chance)
            kinds, rooms, boxes, _, _ = archive.told()
            for kind in kinds:
                for room in rooms:
                    for box in ["", *(row[0] for row in boxes)]:
                        for hour in chance.sample(range(2 * YEAR), 5):
                            self.assertEqual(hour_wear(archive, kind[0], room[0], box, hour),
                                             pair(room_wear(archive, kind[0], room[0], box, hour)))

    def test_spans_of_no_hours(self):
        for hour in (0, 1, 24, YEAR, LAST):
            for room in ("hall", "den"):
                self.assertEqual(span_wear(ARCHIVE, "wood", room, "", hour, hour), (0, 1))

    def test_spans_of_one_hour(self):
        for hour in (0, 5, 6, 22, 23, 24, 10 * DAY, YEAR - 1, YEAR, LAST - 1):
            self.assertEqual(span_wear(ARCHIVE, "wood", "hall", "chest", hour, hour + 1),
                             hour_wear(ARCHIVE, "wood", "hall", "chest", hour))

    def test_spans_of_days(self):
        for first, behind in ((0, 24), (5, 29), (6, 23), (230, 250), (23, 48), (99 * DAY + 3, 101 * DAY), (0, 0),
                              (363 * DAY, 366 * DAY), (363 * DAY + 7, 365 * DAY), (YEAR - 1, YEAR + 1)):
            for box in ("", "chest", "case", "bag"):
                self.assertEqual(span_wear(ARCHIVE, "wood", "hall", box, first, behind),
                                 pair(span(ARCHIVE, "wood", "hall", box, first, behind)))

    def test_spans_by_the_document(self):
        chance = random.Random(32)
        for _ in range(120):
            archive = made(chance, rooms=2)
            kinds, rooms, boxes, _, _ = archive.told()
            kind, room = chance.choice(kinds)[0], chance.choice(rooms)[0]
            box = chance.choice(["", *(row[0] for row in boxes)])
            first = chance.randint(0, 2 * YEAR)
            behind = first + chance.randint(0, 500)
            self.assertEqual(span_wear(archive, kind, room, box, first, behind),
                             pair(span(archive, kind, room, box, first, behind)))

    def test_years_hour_by_hour(self):
        for first, behind in ((0, YEAR), (77, 2 * YEAR + 5000)):
            self.assertEqual(span_wear(ARCHIVE, "wood", "hall", "bag", first, behind),
                             pair(span(ARCHIVE, "wood", "hall", "bag", first, behind)))

    def test_many_years(self):
        year = span(ARCHIVE, "wood", "hall", "", 0, YEAR)
        for years in (1, 2, 1000, 114155):
            self.assertEqual(span_wear(ARCHIVE, "wood", "hall", "", 0, years * YEAR), pair(year * years))
        rest = span(ARCHIVE, "wood", "hall", "", 114155 * YEAR, LAST)
        self.assertEqual(span_wear(ARCHIVE, "wood", "hall", "", 0, LAST), pair(year * 114155 + rest))

    def test_spans_put_together_of_parts(self):
        chance = random.Random(33)
        for _ in range(200):
            first, middle, behind = sorted(chance.choices(range(LAST + 1), k=3))
            box = chance.choice(("", "chest", "case"))
            parts = [span_wear(ARCHIVE, "wood", "hall", box, first, middle),
                     span_wear(ARCHIVE, "wood", "hall", box, middle, behind)]
            above = parts[0][0] * parts[1][1] + parts[1][0] * parts[0][1]
            whole = span_wear(ARCHIVE, "wood", "hall", box, first, behind)
            self.assertEqual(whole[0] * parts[0][1] * parts[1][1], above * whole[1])

    def test_days_and_seasons_as_full_as_they_may_be(self):
        day = tuple((hour, hour, 4 * hour) for hour in range(24))
        seasons = tuple((30 * month + 3, month, -5 * month) for month in range(12))
        archive = Archive(KINDS, [("hall", 1, (), day, seasons)], [], [], [])
        for first, behind in ((0, YEAR), (YEAR - 100, YEAR + 100), (60 * DAY + 5, 200 * DAY)):
            self.assertEqual(span_wear(archive, "wood", "hall", "", first, behind),
                             pair(span(archive, "wood", "hall", "", first, behind)))


class Lacks(unittest.TestCase):
    def refuse(self, function, *handed):
        with self.assertRaises(Lacking) as caught:
            function(ARCHIVE, *handed)
        self.assertEqual(caught.exception.room, "den")

    def test_rows(self):
        self.assertEqual(lacking_rows(ARCHIVE, "den"), [12, 18, 21])
        for room in ("hall", "loft", "mine", "barn"):
            self.assertEqual(lacking_rows(ARCHIVE, room), [])

    def test_the_row_met_or_not(self):
        for hour in (0, 11, 12, 17, 18, 19, 20, 21, 23, LAST):
            self.refuse(reading_at, "den", hour)
            for box in ("", "chest", "case"):
                self.refuse(hour_wear, "wood", "den", box, hour)
        for first, behind in ((0, 1), (0, 12), (20, 21), (12, 13), (0, LAST)):
            self.refuse(span_wear, "iron", "den", "case", first, behind)

    def test_each_row_that_lacks_is_enough(self):
        for row in ((5, None, 1), (5, 1, None), (5, None, None)):
            archive = Archive(KINDS, [("den", 1, (), ((0, 1, 1), row, (6, 2, 2)), ())], [], [], [])
            self.assertEqual(lacking_rows(archive, "den"), [5])
            self.assertTrue(lacks(archive.told()[1][0]))
            with self.assertRaises(Lacking):
                reading_at(archive, "den", 0)

    def test_behind_what_is_out_of_place(self):
        for function, handed in ((reading_at, ("den", -1)), (reading_at, ("den", None)),
                                 (hour_wear, ("oak", "den", "", 5)), (hour_wear, ("wood", "den", "urn", 5)),
                                 (hour_wear, ("wood", "den", "", LAST + 1)), (span_wear, ("oak", "den", "", 0, 5)),
                                 (span_wear, ("wood", "den", "urn", 0, 5)), (span_wear, ("wood", "den", "", 6, 5)),
                                 (span_wear, ("wood", "den", "", 0, LAST + 1))):
            with self.assertRaises(OutOfPlace):
                function(ARCHIVE, *handed)


class Refused(unittest.TestCase):
    def refuse(self, function, *handed):
        with self.assertRaises(OutOfPlace):
            function(ARCHIVE, *handed)

    def test_names(self):
        for name in NO_NAMES:
            self.refuse(reading_at, name, 5)
            self.refuse(reading_at, name, None)
            self.refuse(lacking_rows, name)
            self.refuse(hour_wear, name, "hall", "", 5)
            self.refuse(hour_wear, "wood", name, "", 5)
            self.refuse(span_wear, name, "hall", "", 5, 6)
            self.refuse(span_wear, "wood", name, "", 5, 6)
            # Also of a span of no hours.
            self.refuse(span_wear, "wood", name, "", 5, 5)
            if name != "":
                self.refuse(hour_wear, "wood", "hall", name, 5)
                self.refuse(span_wear, "wood", "hall", name, 5, 6)
                self.refuse(span_wear, "wood", "hall", name, 5, 5)

    def test_names_of_other_sorts(self):
        self.refuse(hour_wear, "hall", "wood", "", 5)
        self.refuse(hour_wear, "wood", "chest", "", 5)
        self.refuse(hour_wear, "wood", "hall", "hall", 5)

    def test_hours(self):
        for hour in NO_HOURS:
            self.refuse(reading_at, "hall", hour)
            self.refuse(hour_wear, "wood", "hall", "", hour)
            self.refuse(span_wear, "wood", "hall", "", hour, 6)
            self.refuse(span_wear, "wood", "hall", "", 5, hour)
            self.refuse(span_wear, "wood", "hall", "", hour, hour)

    def test_backwards(self):
        for first, behind in ((1, 0), (6, 5), (LAST, 0), (LAST, LAST - 1)):
            self.refuse(span_wear, "wood", "hall", "", first, behind)


class Own(unittest.TestCase):
    def test_what_is_handed_in_stays(self):
        archive = Archive(KINDS, ROOMS, BOXES, [], [])
        reading_at(archive, "hall", 5)
        wet_in(archive, "chest", 5)
        hour_wear(archive, "wood", "hall", "chest", 5)
        span_wear(archive, "wood", "hall", "chest", 5, 99999)
        lacking_rows(archive, "den").append(5)
        self.assertEqual(lacking_rows(archive, "den"), [12, 18, 21])
        self.assertEqual(archive.told(), (KINDS, ROOMS, BOXES, [], []))


class Files(unittest.TestCase):
    def test_all_is_defined_in_its_file(self):
        for function in (reading_at, wet_in, hour_wear, span_wear, lacking_rows):
            self.assertEqual(function.__module__, climate.__name__)


if __name__ == "__main__":
    unittest.main()
