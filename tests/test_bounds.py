"""Fillings, and the bounds of shares over all of them, against all fillings one by one."""

import itertools
import math
import random
import unittest
from collections import Counter
from fractions import Fraction

from lastingly import bounds
from lastingly.archive import Archive
from lastingly.bounds import filled, filling_for, share_bounds
from lastingly.errors import OutOfPlace
from lastingly.story import worn_share
from made import made
from reckoning import hours_of, lacks, life, pair, place_wear, row_of, shares_by_hours, table_wear

LAST = 1000000000
KINDS = [
    ("wood", 1000, (10, 20), (20, 60, 90), ((5, 8, 100), (11, 6, 0))),
    ("iron", 60, (15,), (50,), ((7,),)),
    ("silk", 500, (0, 40), (0, 100), ((0, 0), (0, 1000))),
]
ROOMS = [
    ("hall", 3, (), ((0, 18, 50), (6, None, 40), (12, 20, None), (18, None, None)), ((10, -3, 4), (100, 30, 60))),
    ("loft", 0, (), ((0, 12, 34),), ()),
    ("den", 1, (), ((0, None, 50), (23, 5, 5)), ()),
]
BOXES = [("chest", 40, 60), ("case", 30, 30)]
THINGS = [("bow", "wood", "hall", "", 7), ("saw", "iron", "hall", "", 0), ("flag", "silk", "den", "chest", 0),
          ("urn", "wood", "loft", "", 5)]
GAPS = [("hall", 6), ("hall", 12), ("hall", 18), ("den", 0)]
FILLING = {("hall", 6): (1, 2), ("hall", 12): (3, 4), ("hall", 18): (5, 6), ("den", 0): (7, 8)}
NO_HOURS = (-1, LAST + 1, None, True, False, "", "5", b"5", 5.0, [5], (5,), {}, object())
NO_THINGS = ("axe", "", "Bow", None, True, 0, 1, b"bow", ["bow"], ("bow",), {}, THINGS[0], object())


def with_events(*events):
    return Archive(KINDS, ROOMS, BOXES, THINGS, list(events))


ARCHIVE = with_events((5, "bow", ("box", "chest")), (9, "bow", ("box", "")), (30, "flag", ("move", "hall")),
                      (44, "saw", ("lend", 9, 1, 1)), (60, "bow", ("mend", 3)))


def counted(archive, thing, hour):
    """The share that is sure of a thing, and of each gap the hours that count, by their shifts and box."""
    found = {(room[0], row[0]): Counter() for room in archive.told()[1] for row in room[3] if None in row}
    hours = hours_of(archive, thing, hour)
    mended = [at for at, told in enumerate(hours) if told[2] is not None]
    sure = Fraction(row_of(archive.told()[3], thing)[4] if not mended else hours[mended[-1]][2])
    for at in range(mended[-1] if mended else 0, hour):
        place = hours[at][1]
        row = None if place[0] == "away" else row_met(archive, place[1], at)
        if row is not None and None in row:
            found[place[1], row[0]][shift_met(archive, place[1], at), place[2]] += 1
        else:
            sure += place_wear(archive, thing, place, at)
    return sure / life(archive, thing), found


def row_met(archive, room, hour):
    return [row for row in row_of(archive.told()[1], room)[3] if row[0] <= hour % 24][-1]


def shift_met(archive, room, hour):
    seasons = row_of(archive.told()[1], room)[4]
    begun = [row for row in seasons if row[0] <= hour // 24 % 365] or list(seasons) or [(0, 0, 0)]
    return begun[-1][1:]


class AllFillings:
    """All readings of a gap, with what the hours that count are worn by each, in whole parts of a part."""

    def __init__(self, archive, thing):
        self.kind = row_of(archive.told()[0], row_of(archive.told()[3], thing)[1])
        self.boxes = {box[0]: box[1:] for box in archive.told()[2]}
        self.parts = math.prod(v - u for points in self.kind[2:4] for u, v in itertools.pairwise(points))
        self.known = {}

    def wear(self, warmth, wet):
        if (warmth, wet) not in self.known:
            wear = table_wear(self.kind, warmth, wet) * self.parts
            self.known[warmth, wet] = wear.numerator
            assert wear.denominator == 1
        return self.known[warmth, wet]

    def ordered(self, row, hours):
        """(wear, warmth, wet) by rising warmths, then wets."""
        _, warmth, wet = row
        warmths = range(41) if warmth is None else [warmth]
        wets = range(101) if wet is None else [wet]
        found = {(one, other): 0 for one in warmths for other in wets}
        for ((warmer, wetter), box), many in hours.items():
            least, greatest = self.boxes.get(box, (0, 100))
            for one, other in found:
                read = min(max(one + warmer, 0), 40), min(max(min(max(other + wetter, 0), 100), least), greatest)
                found[one, other] += many * self.wear(*read)
        return [(wear, *told) for told, wear in found.items()]


class Filled(unittest.TestCase):
    def test_what_lacks_is_filled_and_all_else_stays(self):
        kinds, rooms, boxes, things, events = ARCHIVE.told()
        day = ((0, 18, 50), (6, 1, 40), (12, 20, 4), (18, 5, 6))
        whole = [("hall", 3, (), day, ROOMS[0][4]), ROOMS[1], ("den", 1, (), ((0, 7, 50), (23, 5, 5)), ())]
        made_whole = filled(ARCHIVE, FILLING)
        self.assertIs(type(made_whole), Archive)
        self.assertEqual(made_whole.told(), (kinds, whole, boxes, things, events))

    def test_any_order_of_gaps(self):
        turned = dict(reversed(FILLING.items()))
        self.assertEqual(filled(ARCHIVE, turned).told(), filled(ARCHIVE, FILLING).told())

    def test_the_least_and_the_greatest_readings(self):
        for warmth, wet in ((0, 0), (40, 100), (0, 100), (40, 0)):
            rooms = filled(ARCHIVE, {gap: (warmth, wet) for gap in GAPS}).told()[1]
            self.assertEqual(rooms[0][3], ((0, 18, 50), (6, warmth, 40), (12, 20, wet), (18, warmth, wet)))

    def test_an_archive_without_gaps(self):
        archive = Archive(KINDS, ROOMS[1:2], BOXES, THINGS[3:], [])
        self.assertEqual(filled(archive, {}).told(), archive.told())
        for filling in (FILLING, {("loft", 0): (1, 1)}, {("", 0): (1, 1)}):
            with self.assertRaises(OutOfPlace):
                filled(archive, filling)

    def test_filled_archives_lack_nothing(self):
        self.assertEqual([lacks(room) for room in filled(ARCHIVE, FILLING).told()[1]], [False] * 3)
        self.assertEqual([lacks(room) for room in ARCHIVE.told()[1]], [True, False, True])


class NoFilling(unittest.TestCase):
    def refuse(self, filling):
        with self.assertRaises(OutOfPlace):
            filled(ARCHIVE, filling)

    def test_no_dicts(self):
        for thing in (None, True, 5, "filling", [], list(FILLING.items()), tuple(FILLING), set(FILLING), object()):
            self.refuse(thing)

    def test_a_gap_too_few(self):
        self.refuse({})
        for gap in GAPS:
            self.refuse({other: told for other, told in FILLING.items() if other != gap})

    def test_a_gap_too_many(self):
        for gap in (("hall", 0), ("hall", 7), ("loft", 0), ("den", 23), ("attic", 0), ("", 0), (0, "hall"), "hall", 0,
                    None, (), ("hall",), ("hall", 6, 6), ("hall", None)):
            self.refuse({**FILLING, gap: (1, 1)})

    def test_a_gap_for_another_one(self):
        for gap in GAPS:
            for other in (("hall", 0), ("loft", 0), ("hall", "6"), "hall", None, 6):
                filling = {key: told for key, told in FILLING.items() if key != gap}
                self.refuse({**filling, other: (1, 1)})

    def test_true_and_false_are_no_hours(self):
        self.refuse({gap if gap[1] else (gap[0], False): told for gap, told in FILLING.items()})
        archive = Archive(KINDS, [("den", 1, (), ((0, 1, 1), (1, None, 1)), ())], [], [], [])
        filled(archive, {("den", 1): (1, 1)})
        with self.assertRaises(OutOfPlace):
            filled(archive, {("den", True): (1, 1)})

    def test_no_readings(self):
        for told in ((-1, 0), (41, 0), (0, -1), (0, 101), (None, 0), (0, None), (True, 0), (0, False), ("1", 0),
                     (0, "1"), (1.0, 0), (0, 1.0), (), (1,), (1, 1, 1), [1, 1], {1: 1}, "11", 11, None, object()):
            for gap in GAPS:
                self.refuse({**FILLING, gap: told})


class Bounds(unittest.TestCase):
    def check(self, archive, thing, hour):
        """Bounds, and their fillings, are those by the readings of each gap one by one."""
        sure, gaps = counted(archive, thing, hour)
        every = AllFillings(archive, thing)
        rows = {(room[0], row[0]): row for room in archive.told()[1] for row in room[3]}
        ordered = {gap: every.ordered(rows[gap], hours) for gap, hours in gaps.items()}
        told = share_bounds(archive, thing, hour)
        for bound, which, extreme in ((told[0], "least", min), (told[1], "most", max)):
            best = {gap: next(of for of in by_gap if of[0] == extreme(other[0] for other in by_gap))
                    for gap, by_gap in ordered.items()}
            worn = Fraction(sum(of[0] for of in best.values()), every.parts)
            self.assertEqual(bound, pair(sure + worn / life(archive, thing)))
            filling = filling_for(archive, thing, hour, which)
            self.assertEqual(filling, {gap: of[1:] for gap, of in best.items()})
            self.assertEqual(list(filling), list(gaps))
            self.assertEqual(worn_share(filled(archive, filling), thing, hour), bound)

    def test_one_archive(self):
        for thing in ("bow", "saw", "flag", "urn"):
            for hour in (0, 7, 13, 60, 61, 300, 2600):
                self.check(ARCHIVE, thing, hour)

    def test_by_the_readings_one_by_one(self):
        chance = random.Random(60)
        for _ in range(25):
            archive = made(chance, gaps=2, rooms=3, events=8)
            for name, *_ in archive.told()[3]:
                self.check(archive, name, chance.choice((1, chance.randint(0, 200), chance.randint(0, 2500))))

    def test_all_fillings_one_by_one(self):
        rooms = [("hall", 1, (), ((0, None, 40), (3, 18, 50), (5, 17, None)), ((0, 3, -9),)), ROOMS[1],
                 ("den", 1, (), ((0, 1, 1), (2, None, 30)), ())]
        events = [(9, "bow", ("box", "chest")), (12, "bow", ("lend", 5, 1, 1)), (30, "bow", ("move", "den")),
                  (31, "bow", ("move", "loft"))]
        archive = Archive(KINDS, rooms, BOXES, [("bow", "wood", "hall", "", 7)], events)
        for hour in (6, 40):
            shares = []
            for one, other in itertools.product(range(41), range(101)):
                for last in ((0, 13, 40) if hour < 30 else (5, 20)):
                    filling = {("hall", 0): (one, 0), ("hall", 5): (9, other), ("den", 2): (last, 77)}
                    shares.append(Fraction(*worn_share(filled(archive, filling), "bow", hour)))
            if hour < 30:
                self.assertEqual(share_bounds(archive, "bow", hour), (pair(min(shares)), pair(max(shares))))
            least, most = share_bounds(archive, "bow", hour)
            self.assertLessEqual(Fraction(*least), min(shares))
            self.assertGreaterEqual(Fraction(*most), max(shares))

    def test_no_gaps(self):
        archive = filled(ARCHIVE, FILLING)
        for hour in (0, 9, 100):
            for thing in ("bow", "saw", "flag", "urn"):
                share = worn_share(archive, thing, hour)
                self.assertEqual(share_bounds(archive, thing, hour), (share, share))
                for which in ("least", "most"):
                    self.assertEqual(filling_for(archive, thing, hour, which), {})

    def test_gaps_whose_hours_do_not_count(self):
        for thing, hour in (("urn", 500), ("bow", 0), ("bow", 6), ("flag", 0)):
            share = worn_share(filled(ARCHIVE, FILLING), thing, hour)
            self.assertEqual(share_bounds(ARCHIVE, thing, hour), (share, share))
            for which in ("least", "most"):
                self.assertEqual(filling_for(ARCHIVE, thing, hour, which), {
                    ("hall", 6): (0, 40), ("hall", 12): (20, 0), ("hall", 18): (0, 0), ("den", 0): (0, 50)})

    def test_hours_ahead_of_a_mending_do_not_count(self):
        # At hour 61 the bow has one hour behind its mending, at 12 of the day.
        for which, wet in (("least", 30), ("most", 0)):
            self.assertEqual(filling_for(ARCHIVE, "bow", 61, which), {
                ("hall", 6): (0, 40), ("hall", 12): (20, wet), ("hall", 18): (0, 0), ("den", 0): (0, 50)})
            self.check(ARCHIVE, "bow", 61)

    def test_hours_that_are_all_worn_alike(self):
        share = worn_share(filled(ARCHIVE, FILLING), "saw", 100)
        self.assertEqual(share_bounds(ARCHIVE, "saw", 100), (share, share))
        for which in ("least", "most"):
            self.assertEqual(filling_for(ARCHIVE, "saw", 100, which), {
                ("hall", 6): (0, 40), ("hall", 12): (20, 0), ("hall", 18): (0, 0), ("den", 0): (0, 50)})

    def test_the_least_warmth_and_of_these_the_least_wet(self):
        rooms = [("den", 1, (), ((0, None, None),), ())]
        archive = Archive(KINDS, rooms, BOXES, [("flag", "silk", "den", "", 0), ("bow", "silk", "den", "chest", 0)], [])
        self.assertEqual(filling_for(archive, "flag", 5, "least"), {("den", 0): (0, 0)})
        self.assertEqual(filling_for(archive, "flag", 5, "most"), {("den", 0): (40, 100)})
        self.assertEqual(filling_for(archive, "bow", 5, "most"), {("den", 0): (40, 60)})
        self.assertEqual(share_bounds(archive, "flag", 5), ((0, 1), (10, 1)))
        self.assertEqual(share_bounds(archive, "bow", 5), ((0, 1), (6, 1)))

    def test_turns_at_the_bounds_of_a_box(self):
        tent = [("wood", 1000, (15,), (0, 50, 100), ((0, 1000, 0),))]
        # What is worn in the box on the first day stays alike at one side of its bound, while
        # what is worn in none on the second day, by its season, turns elsewhere.
        for least, greatest, shift, wet in ((40, 50, 57, 40), (50, 60, -57, 60)):
            rooms = [("hall", 1, (), ((0, 15, None),), ((0, 0, 0), (1, 0, shift)))]
            archive = Archive(tent, rooms, [("chest", least, greatest)], [("bow", "wood", "hall", "chest", 0)],
                              [(24, "bow", ("box", ""))])
            self.check(archive, "bow", 36)
            self.assertEqual(filling_for(archive, "bow", 36, "least"), {("hall", 0): (15, wet)})

    def test_readings_just_beyond_what_a_gap_may_have(self):
        vale = [("wood", 1000, (0, 20, 40), (0, 50, 100), ((1000, 500, 1000), (500, 0, 500), (1000, 500, 1000)))]
        for shifts, readings in (((21, 51), (0, 0)), ((-21, -51), (40, 100)), ((20, 50), (0, 0)), ((-20, -50), (40, 100))):
            archive = Archive(vale, [("hall", 1, (), ((0, None, None),), ((0, *shifts),))], [],
                              [("bow", "wood", "hall", "", 0)], [])
            self.check(archive, "bow", 3)
            self.assertEqual(filling_for(archive, "bow", 3, "least"), {("hall", 0): readings})

    def test_many_hours(self):
        for thing in ("bow", "flag"):
            for hour in (8760, 123456789, LAST):
                least, most = share_bounds(ARCHIVE, thing, hour)
                for bound, which in ((least, "least"), (most, "most")):
                    filling = filling_for(ARCHIVE, thing, hour, which)
                    self.assertEqual(worn_share(filled(ARCHIVE, filling), thing, hour), bound)
                between = worn_share(filled(ARCHIVE, FILLING), thing, hour)
                self.assertLess(Fraction(*least), Fraction(*between))
                self.assertLess(Fraction(*between), Fraction(*most))

    def test_eight_gaps_and_many_seasons(self):
        seasons = tuple((day, day % 7 - 3, day % 41 - 20) for day in range(5, 365, 31))
        day = tuple((3 * at, None if at % 2 else 9, None) for at in range(8))
        archive = Archive(KINDS, [("hall", 1, (), day, seasons)], BOXES, [("bow", "wood", "hall", "", 0)],
                          [(20000, "bow", ("box", "chest")), (40000, "bow", ("box", "case"))])
        least, most = share_bounds(archive, "bow", LAST)
        for bound, which in ((least, "least"), (most, "most")):
            filling = filling_for(archive, "bow", LAST, which)
            self.assertEqual(worn_share(filled(archive, filling), "bow", LAST), bound)


class Refused(unittest.TestCase):
    def refuse(self, function, *handed):
        with self.assertRaises(OutOfPlace):
            function(ARCHIVE, *handed)

    def test_no_things(self):
        for thing in NO_THINGS:
            self.refuse(share_bounds, thing, 5)
            self.refuse(filling_for, thing, 5, "least")

    def test_no_hours(self):
        for hour in NO_HOURS:
            self.refuse(share_bounds, "bow", hour)
            self.refuse(filling_for, "bow", hour, "most")

    def test_no_such_words(self):
        for which in ("", "Least", "least ", "greatest", "leastmost", None, True, 0, 1, b"least", ["least"], ("most",),
                      {}, object()):
            self.refuse(filling_for, "bow", 5, which)


class Own(unittest.TestCase):
    def test_what_is_handed_in_stays_and_is_not_kept(self):
        archive = with_events()
        handed = dict(FILLING)
        whole = filled(archive, handed)
        told = whole.told()
        handed.clear()
        self.assertEqual(whole.told(), told)
        filled(archive, FILLING)
        share_bounds(archive, "bow", 50)
        self.assertEqual(FILLING[("hall", 6)], (1, 2))
        self.assertEqual(archive.told(), with_events().told())

    def test_what_was_told_stays(self):
        filling = filling_for(ARCHIVE, "bow", 50, "most")
        again = filling_for(ARCHIVE, "bow", 50, "most")
        filling.clear()
        self.assertEqual(filling_for(ARCHIVE, "bow", 50, "most"), again)
        self.assertEqual(list(again), GAPS)
        self.assertEqual([type(told) for told in again.values()], [tuple] * 4)

    def test_shares_by_hours_of_a_filled_archive(self):
        whole = filled(ARCHIVE, FILLING)
        for hour, share in enumerate(shares_by_hours(whole, "bow", 70)):
            self.assertEqual(worn_share(whole, "bow", hour), pair(share))


class Files(unittest.TestCase):
    def test_all_is_defined_in_its_file(self):
        for function in (filled, share_bounds, filling_for):
            self.assertEqual(function.__module__, bounds.__name__)


if __name__ == "__main__":
    unittest.main()
