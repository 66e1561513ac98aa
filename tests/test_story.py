"""Stretches of things, and what they have worn, against a going hour by hour."""

import random
import unittest
from fractions import Fraction

from lastingly import story
from lastingly.archive import Archive
from lastingly.errors import Lacking, OutOfPlace
from lastingly.story import stretch_wear, stretches, worn_parts, worn_share
from made import made
from reckoning import life, pair, parts_by_hours, place_wear, shares_by_hours, span, stretches_of

LAST = 1000000000
KINDS = [
    ("wood", 1000, (10, 20), (20, 60), ((5, 8), (11, 6))),
    ("iron", 60, (15,), (50,), ((7,),)),
]
ROOMS = [
    ("hall", 3, (), ((0, 18, 50), (6, 20, 40)), ((10, -3, 4), (100, 30, 60))),
    ("loft", 0, (), ((0, 12, 34),), ()),
    ("den", 1, (), ((0, 18, 50), (12, None, 60)), ()),
    ("cave", 1, (), ((0, None, None),), ()),
]
BOXES = [("chest", 40, 60), ("case", 30, 30)]
THINGS = [("bow", "wood", "hall", "", 7), ("saw", "iron", "loft", "chest", 0), ("axe", "iron", "den", "", 4)]
NO_THINGS = ("urn", "", "Bow", None, True, 0, 1, b"bow", ["bow"], ("bow",), {}, THINGS[0], object())
NO_HOURS = (-1, LAST + 1, None, True, False, "", "5", b"5", 5.0, [5], (5,), {}, object())

HALL = ("room", "hall", "")
LOFT = ("room", "loft", "")


def with_events(*events, things=None):
    return Archive(KINDS, ROOMS, BOXES, THINGS if things is None else things, list(events))


class Stretches(unittest.TestCase):
    def check(self, events, hour, *told, thing="bow"):
        self.assertEqual(stretches(with_events(*events), thing, hour), list(told))

    def test_no_events(self):
        self.check([], 1, (0, 1, HALL, None))
        self.check([], LAST, (0, LAST, HALL, None))
        self.check([], 5, (0, 5, ("room", "loft", "chest"), None), thing="saw")

    def test_none_for_hour_0(self):
        self.check([], 0)
        self.check([(0, "bow", ("move", "loft"))], 0)
        self.check([(0, "bow", ("lend", 5, 1, 2))], 0)

    def test_moves_and_boxes(self):
        events = [(3, "bow", ("move", "loft")), (5, "bow", ("box", "chest")), (9, "bow", ("move", "hall")),
                  (12, "bow", ("box", "case")), (13, "bow", ("box", ""))]
        told = [(0, 3, HALL, None), (3, 5, LOFT, None), (5, 9, ("room", "loft", "chest"), None),
                (9, 12, ("room", "hall", "chest"), None), (12, 13, ("room", "hall", "case"), None),
                (13, 20, HALL, None)]
        self.check(events, 20, *told)
        self.check(events, 13, *told[:5])
        self.check(events, 12, *told[:4])
        self.check(events, 11, *told[:3], (9, 11, ("room", "hall", "chest"), None))
        self.check(events, 4, told[0], (3, 4, LOFT, None))
        self.check(events, 3, told[0])
        self.check(events, 2, (0, 2, HALL, None))

    def test_events_at_hour_0(self):
        self.check([(0, "bow", ("move", "loft"))], 5, (0, 5, LOFT, None))
        self.check([(0, "bow", ("mend", 3)), (0, "bow", ("box", "case"))], 5, (0, 5, ("room", "hall", "case"), 3))
        self.check([(0, "bow", ("lend", 2, 1, 3))], 5, (0, 2, ("away", 1, 3), None), (2, 5, HALL, None))

    def test_several_events_in_one_hour(self):
        self.check([(4, "bow", ("move", "loft")), (4, "bow", ("box", "chest")), (4, "bow", ("mend", 9)),
                    (4, "bow", ("move", "hall")), (4, "bow", ("move", "den"))], 8,
                   (0, 4, HALL, None), (4, 8, ("room", "den", "chest"), 9))
        self.check([(4, "bow", ("mend", 9)), (4, "bow", ("mend", 0)), (4, "bow", ("mend", 5))], 8,
                   (0, 4, HALL, None), (4, 8, HALL, 5))
        self.check([(4, "bow", ("mend", 0)), (4, "bow", ("box", ""))], 8, (0, 4, HALL, None), (4, 8, HALL, 0))

    def test_an_event_that_changes_nothing_begins_a_stretch_too(self):
        for deed in (("move", "hall"), ("box", "")):
            self.check([(4, "bow", deed)], 8, (0, 4, HALL, None), (4, 8, HALL, None))

    def test_events_of_other_things(self):
        self.check([(3, "saw", ("move", "hall")), (4, "axe", ("mend", 0)), (5, "saw", ("lend", 2, 1, 1)),
                    (6, "bow", ("mend", 1)), (6, "axe", ("mend", 2))], 9, (0, 6, HALL, None), (6, 9, HALL, 1))

    def test_a_lending(self):
        events = [(4, "bow", ("move", "loft")), (4, "bow", ("box", "case")), (6, "bow", ("lend", 5, 30, 70))]
        loft = ("room", "loft", "case")
        away = ("away", 30, 70)
        self.check(events, 20, (0, 4, HALL, None), (4, 6, loft, None), (6, 11, away, None), (11, 20, loft, None))
        self.check(events, 12, (0, 4, HALL, None), (4, 6, loft, None), (6, 11, away, None), (11, 12, loft, None))
        self.check(events, 11, (0, 4, HALL, None), (4, 6, loft, None), (6, 11, away, None))
        self.check(events, 10, (0, 4, HALL, None), (4, 6, loft, None), (6, 10, away, None))
        self.check(events, 6, (0, 4, HALL, None), (4, 6, loft, None))

    def test_a_lending_that_ends_at_an_event(self):
        self.check([(3, "bow", ("lend", 4, 1, 2)), (7, "bow", ("move", "loft"))], 9,
                   (0, 3, HALL, None), (3, 7, ("away", 1, 2), None), (7, 9, LOFT, None))
        self.check([(3, "bow", ("lend", 4, 1, 2)), (7, "bow", ("mend", 6))], 9,
                   (0, 3, HALL, None), (3, 7, ("away", 1, 2), None), (7, 9, HALL, 6))
        self.check([(3, "bow", ("lend", 4, 1, 2)), (7, "bow", ("lend", 1, 3, 4)), (8, "bow", ("box", "case"))], 9,
                   (0, 3, HALL, None), (3, 7, ("away", 1, 2), None), (7, 8, ("away", 3, 4), None),
                   (8, 9, ("room", "hall", "case"), None))

    def test_one_lending_just_behind_another_one(self):
        self.check([(3, "bow", ("lend", 2, 1, 2)), (5, "bow", ("lend", 3, 1, 2))], 9,
                   (0, 3, HALL, None), (3, 5, ("away", 1, 2), None), (5, 8, ("away", 1, 2), None), (8, 9, HALL, None))

    def test_mended_and_moved_and_lent_in_one_hour(self):
        self.check([(3, "bow", ("mend", 2)), (3, "bow", ("move", "loft")), (3, "bow", ("lend", 2, 1, 2))], 9,
                   (0, 3, HALL, None), (3, 5, ("away", 1, 2), 2), (5, 9, LOFT, None))

    def test_lendings_beyond_the_last_hour(self):
        self.check([(3, "bow", ("lend", LAST, 1, 2))], LAST, (0, 3, HALL, None), (3, LAST, ("away", 1, 2), None))
        self.check([(LAST, "bow", ("lend", LAST, 1, 2))], LAST, (0, LAST, HALL, None))

    def test_by_the_document(self):
        chance = random.Random(40)
        for _ in range(200):
            archive = made(chance, gaps=2)
            for name, *_ in archive.told()[3]:
                hour = chance.randint(0, 400)
                self.assertEqual(stretches(archive, name, hour), stretches_of(archive, name, hour))

    def test_kinds_of_values(self):
        told = stretches(with_events((3, "bow", ("lend", 4, 1, 2)), (7, "bow", ("mend", 6))), "bow", 9)
        self.assertIs(type(told), list)
        for stretch in told:
            self.assertEqual([type(part) for part in stretch[:3]], [int, int, tuple])


class Wear(unittest.TestCase):
    def test_rooms_boxes_and_away(self):
        archive = with_events((5, "bow", ("box", "chest")), (20, "bow", ("lend", 10, 15, 40)),
                              (700, "bow", ("move", "loft")))
        for stretch in stretches(archive, "bow", 4000):
            first, behind, place, _ = stretch
            worn = sum((place_wear(archive, "bow", place, hour) for hour in range(first, behind)), Fraction(0))
            self.assertEqual(stretch_wear(archive, "bow", stretch), pair(worn))

    def test_a_stretch_far_away(self):
        archive = with_events((5, "bow", ("lend", LAST, 15, 20)))
        self.assertEqual(stretch_wear(archive, "bow", stretches(archive, "bow", LAST)[1]), (8 * (LAST - 5), 1))

    def test_what_a_stretch_was_mended_to_does_not_count(self):
        archive = with_events((5, "bow", ("mend", 900)))
        told = stretches(archive, "bow", 30)[1]
        self.assertEqual(stretch_wear(archive, "bow", told), pair(span(archive, "wood", "hall", "", 5, 30)))

    def test_rooms_that_lack(self):
        archive = with_events((2, "axe", ("lend", 3, 1, 1)), (9, "axe", ("move", "hall")))
        told = stretches(archive, "axe", 12)
        for stretch in (told[0], told[2]):
            with self.assertRaises(Lacking) as caught:
                stretch_wear(archive, "axe", stretch)
            self.assertEqual(caught.exception.room, "den")
        self.assertEqual(stretch_wear(archive, "axe", told[1]), (21, 1))
        self.assertEqual(stretch_wear(archive, "axe", told[3]), (21, 1))

    def test_no_thing(self):
        for thing in NO_THINGS:
            with self.assertRaises(OutOfPlace):
                stretch_wear(with_events(), thing, (0, 5, HALL, None))


class Worn(unittest.TestCase):
    def check(self, archive, thing, hour):
        """The parts worn at an hour, which are those of the document, as is the share."""
        parts = parts_by_hours(archive, thing, hour)[-1]
        self.assertEqual(worn_parts(archive, thing, hour), pair(parts))
        self.assertEqual(worn_share(archive, thing, hour), pair(parts / life(archive, thing)))
        return worn_parts(archive, thing, hour)

    def test_hour_0(self):
        archive = with_events((0, "bow", ("mend", 0)), (0, "saw", ("move", "hall")))
        self.assertEqual(self.check(archive, "bow", 0), (7, 1))
        self.assertEqual(worn_share(archive, "bow", 0), (7, 1000))
        self.assertEqual(worn_share(archive, "saw", 0), (0, 1))
        # Nothing counts yet, also in a room that lacks.
        self.assertEqual(worn_share(archive, "axe", 0), (1, 15))

    def test_without_mending(self):
        archive = with_events((5, "saw", ("box", "")), (9, "saw", ("move", "hall")))
        for hour in (1, 5, 6, 9, 10, 500):
            self.assertEqual(self.check(archive, "saw", hour), (7 * hour, 1))
        self.assertEqual(worn_share(archive, "saw", 60), (7, 1))
        self.assertEqual(worn_share(archive, "saw", 10), (7, 6))

    def test_mended(self):
        archive = with_events((10, "saw", ("mend", 3)), (20, "saw", ("move", "hall")), (30, "saw", ("mend", 100)),
                              (40, "saw", ("mend", 8)), (40, "saw", ("mend", 2)))
        for hour, parts in ((9, 63), (10, 70), (11, 10), (20, 73), (30, 143), (31, 107), (40, 170), (41, 9), (50, 72)):
            self.assertEqual(self.check(archive, "saw", hour), (parts, 1))

    def test_mended_at_hour_0(self):
        archive = with_events((0, "bow", ("mend", 500)), things=[("bow", "iron", "hall", "", 50)])
        for hour, parts in ((0, 50), (1, 507), (2, 514)):
            self.assertEqual(self.check(archive, "bow", hour), (parts, 1))

    def test_lent(self):
        archive = with_events((10, "bow", ("mend", 0)), (10, "bow", ("lend", 5, 15, 20)), (30, "bow", ("mend", 1)))
        for hour, parts in ((11, 8), (12, 16), (15, 40)):
            self.assertEqual(self.check(archive, "bow", hour), (parts, 1))
        for hour in (0, 1, 9, 10, 16, 29, 30, 31, 32, 500, 3000):
            self.check(archive, "bow", hour)

    def test_by_the_document(self):
        chance = random.Random(41)
        for _ in range(150):
            archive = made(chance)
            for name, *_ in archive.told()[3]:
                for hour in (0, 1, chance.randint(0, 100), chance.randint(0, 500)):
                    self.check(archive, name, hour)

    def test_every_hour_of_one_archive(self):
        archive = made(random.Random(5), events=30)
        for name, *_ in archive.told()[3]:
            for hour, share in enumerate(shares_by_hours(archive, name, 300)):
                self.assertEqual(worn_share(archive, name, hour), pair(share))

    def test_the_last_hour(self):
        archive = with_events((LAST - 10, "saw", ("mend", 1)))
        self.assertEqual(worn_parts(archive, "saw", LAST - 10), (7 * (LAST - 10), 1))
        self.assertEqual(worn_parts(archive, "saw", LAST), (71, 1))
        self.assertEqual(worn_parts(with_events(), "bow", LAST), pair(
            7 + span(with_events(), "wood", "hall", "", 0, 8760) * 114155
            + span(with_events(), "wood", "hall", "", 114155 * 8760, LAST)))


class Lacks(unittest.TestCase):
    def check(self, archive, hour, room):
        for function in (worn_parts, worn_share):
            with self.assertRaises(Lacking) as caught:
                function(archive, "axe", hour)
            self.assertEqual(caught.exception.room, room)

    def test_the_first_stretch_that_counts(self):
        archive = with_events((5, "axe", ("move", "cave")), (9, "axe", ("move", "hall")))
        for hour in (1, 5, 6, 9, 20):
            self.check(archive, hour, "den")

    def test_not_those_ahead_of_a_mending(self):
        archive = with_events((5, "axe", ("mend", 3)), (5, "axe", ("move", "hall")), (9, "axe", ("move", "cave")),
                              (10, "axe", ("move", "den")), (12, "axe", ("mend", 1)), (13, "axe", ("move", "loft")),
                              (14, "axe", ("mend", 6)))
        self.check(archive, 5, "den")
        self.assertEqual(worn_parts(archive, "axe", 6), (10, 1))
        self.assertEqual(worn_parts(archive, "axe", 9), (31, 1))
        self.check(archive, 10, "cave")
        self.check(archive, 11, "cave")
        self.check(archive, 12, "cave")
        self.check(archive, 13, "den")
        self.check(archive, 14, "den")
        self.assertEqual(worn_parts(archive, "axe", 15), (13, 1))

    def test_a_stretch_that_is_not_begun(self):
        archive = with_events((5, "saw", ("move", "den")))
        self.assertEqual(worn_parts(archive, "saw", 5), (35, 1))
        with self.assertRaises(Lacking):
            worn_parts(archive, "saw", 6)

    def test_away_nothing_lacks(self):
        archive = with_events((0, "axe", ("lend", 9, 1, 1)))
        self.assertEqual(worn_parts(archive, "axe", 9), (67, 1))
        self.check(archive, 10, "den")


class Refused(unittest.TestCase):
    def refuse(self, *handed):
        for function in (stretches, worn_parts, worn_share):
            with self.assertRaises(OutOfPlace):
                function(with_events(), *handed)

    def test_no_things(self):
        for thing in NO_THINGS:
            self.refuse(thing, 5)
            self.refuse(thing, None)

    def test_no_hours(self):
        for hour in NO_HOURS:
            self.refuse("bow", hour)
            # Ahead of Lacking.
            self.refuse("axe", hour)


class Own(unittest.TestCase):
    def test_what_was_told_and_handed_in_stays(self):
        lists = (list(KINDS), list(ROOMS), list(BOXES), list(THINGS), [(3, "bow", ("mend", 2))])
        archive = Archive(*lists)
        told = stretches(archive, "bow", 9)
        again = stretches(archive, "bow", 9)
        told.clear()
        worn_share(archive, "bow", 9)
        self.assertEqual(again, [(0, 3, HALL, None), (3, 9, HALL, 2)])
        self.assertEqual(stretches(archive, "bow", 9), again)
        self.assertEqual(archive.told(), lists)


class Files(unittest.TestCase):
    def test_all_is_defined_in_its_file(self):
        for function in (stretches, stretch_wear, worn_parts, worn_share):
            self.assertEqual(function.__module__, story.__name__)


if __name__ == "__main__":
    unittest.main()
