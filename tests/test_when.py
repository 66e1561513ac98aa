"""First and last hours of shares, and the worst thing, against the shares of all hours."""

import random
import unittest
from fractions import Fraction
from math import gcd

from lastingly import when
from lastingly.archive import Archive
from lastingly.errors import Lacking, OutOfPlace
from lastingly.story import stretches, worn_share
from lastingly.when import all_hours, first_hour, last_hour, worst_thing
from made import made
from reckoning import pair, shares_by_hours

LAST = 1000000000
KINDS = [
    ("wood", 1000, (15,), (50,), ((10,),)),
    ("iron", 60, (15,), (50,), ((7,),)),
    ("clay", 5, (15,), (50,), ((0,),)),
    ("silk", 1000000000, (0, 7), (0,), ((0,), (1,))),
]
ROOMS = [
    ("hall", 3, (), ((0, 15, 50),), ()),
    ("den", 1, (), ((0, 15, None),), ()),
    ("cave", 1, (), ((0, None, 1),), ()),
    ("attic", 1, (), ((0, 1, 1), (6, 3, 3), (12, 0, 0)), ((0, 0, 0), (100, 5, 0))),
]
THINGS = [("bow", "wood", "hall", "", 0), ("saw", "iron", "hall", "", 30), ("urn", "clay", "hall", "", 10),
          ("flag", "silk", "attic", "", 0)]
NO_THINGS = ("axe", "", "Bow", None, True, 0, 1, b"bow", ["bow"], ("bow",), {}, THINGS[0], object())
NO_SHARES = (
    None, True, 1, 0, "1/2", (), (1,), (1, 2, 3), [1, 2], {1: 2}, (1, 0), (0, 0), (0, 2), (2, 4), (2, 2), (10, 5),
    (-1, 2), (1, -2), (-1, -2), (LAST + 1, 1), (1, 1000001), (True, 2), (1, True), (False, 1), (1.0, 2), (1, 2.0),
    ("1", 2), (1, "2"), (None, 1), (1, None), ((1, 2),), object())
NO_HOURS = (-1, LAST + 1, None, True, False, "", "5", b"5", 5.0, [5], (5,), {}, object())


def with_events(*events, things=None):
    return Archive(KINDS, ROOMS, [("chest", 0, 100)], THINGS if things is None else things, list(events))


def shares_for(chance, archive, thing, hour):
    """Shares that a thing has at some hours, as far as they may be handed in, and ones beside them."""
    found = [(0, 1), (1, 1), (chance.randint(0, 50), 1), (LAST, 1), (LAST, 999999), (1, 1000000)]
    for share in chance.sample(shares_by_hours(archive, thing, hour), 4):
        found.append(pair(share.limit_denominator(1000000)))
        found.append(pair(share.limit_denominator(1000) + Fraction(1, 1000)))
    return [(above, below) for above, below in found if above <= LAST and gcd(above, below) == 1]


class First(unittest.TestCase):
    def check(self, archive, thing, share, hour):
        self.assertEqual(first_hour(archive, thing, share), hour)

    def test_at_hour_0(self):
        archive = with_events()
        self.check(archive, "bow", (0, 1), 0)
        self.check(archive, "saw", (1, 2), 0)
        self.check(archive, "saw", (1, 3), 0)
        self.check(archive, "urn", (2, 1), 0)
        # What it is mended to at hour 0 is not there yet at hour 0.
        self.check(with_events((0, "saw", ("mend", 0))), "saw", (1, 2), 0)
        self.check(with_events((0, "bow", ("mend", 500))), "bow", (1, 2), 1)

    def test_at_the_very_hour(self):
        archive = with_events()
        self.check(archive, "bow", (1, 100), 1)
        self.check(archive, "bow", (1, 2), 50)
        self.check(archive, "bow", (499, 1000), 50)
        self.check(archive, "bow", (501, 1000), 51)
        self.check(archive, "bow", (7, 1), 700)
        self.check(archive, "saw", (1, 1), 5)
        self.check(archive, "saw", (29, 20), 9)
        self.check(archive, "saw", (31, 20), 9)

    def test_never(self):
        archive = with_events()
        self.check(archive, "urn", (2000001, 1000000), None)
        self.check(archive, "urn", (LAST, 1), None)
        self.check(with_events((3, "bow", ("lend", LAST, 0, 0)), things=[("bow", "silk", "hall", "", 0)]), "bow",
                   (1, 100), None)

    def test_up_to_the_last_hour(self):
        archive = with_events()
        self.check(archive, "bow", (10000000, 1), LAST)
        self.check(archive, "bow", (9999999, 1), LAST - 100)
        self.check(archive, "bow", (10000001, 1), None)
        self.check(archive, "bow", (999999999, 100), 999999999)
        self.check(archive, "saw", (1, 1000000), 0)

    def test_mended_and_come_to_again(self):
        archive = with_events((40, "bow", ("mend", 100)), (60, "bow", ("mend", 200)))
        self.check(archive, "bow", (2, 5), 40)
        self.check(archive, "bow", (41, 100), 81)
        self.check(archive, "bow", (39, 100), 39)
        self.check(archive, "bow", (1, 1), 140)
        self.check(with_events((40, "bow", ("mend", 900))), "bow", (9, 10), 41)
        self.check(with_events((40, "bow", ("mend", 900))), "bow", (91, 100), 41)
        self.check(with_events((40, "bow", ("mend", 900))), "bow", (23, 25), 42)

    def test_in_a_lending(self):
        archive = with_events((5, "flag", ("lend", 10, 7, 0)), things=[("flag", "silk", "den", "", 0),
                                                                      ("bow", "silk", "hall", "", 9)])
        with self.assertRaises(Lacking):
            first_hour(archive, "flag", (1, 1000000))
        self.check(archive, "bow", (1, 1000000), 991)

    def test_by_days_and_seasons(self):
        archive = with_events()
        for above, below in ((1, 1000000), (1, 3), (2, 3), (1, 2), (9, 10), (1, 1)):
            hour = first_hour(archive, "flag", (above, below))
            if hour is not None:
                self.assertGreaterEqual(Fraction(*worn_share(archive, "flag", hour)), Fraction(above, below))
                self.assertLess(Fraction(*worn_share(archive, "flag", hour - 1)), Fraction(above, below))
            else:
                self.assertLess(Fraction(*worn_share(archive, "flag", LAST)), Fraction(above, below))

    def test_by_the_shares_of_all_hours(self):
        chance = random.Random(50)
        for _ in range(40):
            archive = made(chance, life=20000, rooms=3)
            for name, *_ in archive.told()[3]:
                shares = shares_by_hours(archive, name, 300)
                for above, below in shares_for(chance, archive, name, 300):
                    hour = first_hour(archive, name, (above, below))
                    come_to = [at for at, share in enumerate(shares) if share >= Fraction(above, below)]
                    if come_to:
                        self.assertEqual(hour, come_to[0])
                    else:
                        self.check_far(archive, name, Fraction(above, below), hour)

    def check_far(self, archive, thing, share, hour):
        """Within stretches shares rise, so that the ends of those ahead are enough."""
        ends = [behind for _, behind, _, _ in stretches(archive, thing, LAST if hour is None else hour - 1)]
        for at in ends:
            self.assertLess(Fraction(*worn_share(archive, thing, at)), share)
        if hour is not None:
            self.assertGreater(hour, 300)
            self.assertGreaterEqual(Fraction(*worn_share(archive, thing, hour)), share)


class FirstLacks(unittest.TestCase):
    def check(self, archive, share, hour):
        self.assertEqual(first_hour(archive, "bow", share), hour)

    def refuse(self, archive, share, room):
        with self.assertRaises(Lacking) as caught:
            first_hour(archive, "bow", share)
        self.assertEqual(caught.exception.room, room)

    def test_ahead_of_the_hour_and_behind_it(self):
        archive = with_events((50, "bow", ("move", "den")), (60, "bow", ("move", "cave")), (70, "bow", ("move", "hall")))
        self.check(archive, (0, 1), 0)
        self.check(archive, (49, 100), 49)
        # The hour at which the stretch that lacks begins is ahead of it.
        self.check(archive, (1, 2), 50)
        self.refuse(archive, (51, 100), "den")
        self.refuse(archive, (10000, 1), "den")

    def test_at_hour_0(self):
        archive = with_events((5, "bow", ("move", "cave")), things=[("bow", "wood", "den", "", 100)])
        self.check(archive, (1, 10), 0)
        self.refuse(archive, (1, 5), "den")

    def test_before_it_is_sure_that_there_is_none(self):
        things = [("bow", "clay", "hall", "", 0)]
        self.refuse(with_events((LAST - 1, "bow", ("move", "den")), things=things), (1, 5), "den")
        self.check(with_events((LAST, "bow", ("move", "den")), things=things), (1, 5), None)

    def test_also_ahead_of_a_mending(self):
        archive = with_events((5, "bow", ("move", "den")), (6, "bow", ("mend", 0)), (6, "bow", ("move", "hall")))
        self.check(archive, (1, 20), 5)
        self.refuse(archive, (3, 50), "den")


class LastHour(unittest.TestCase):
    def check(self, archive, thing, share, hour):
        self.assertEqual(last_hour(archive, thing, share), hour)

    def test_never_below(self):
        archive = with_events()
        for thing in ("bow", "saw", "urn", "flag"):
            self.check(archive, thing, (0, 1), None)
        self.check(archive, "saw", (1, 2), None)
        self.check(archive, "urn", (2, 1), None)

    def test_ordinary_ones(self):
        archive = with_events()
        self.check(archive, "bow", (1, 100), 0)
        self.check(archive, "bow", (1, 2), 49)
        self.check(archive, "bow", (501, 1000), 50)
        self.check(archive, "saw", (31, 60), 0)
        self.check(archive, "saw", (19, 30), 1)

    def test_always_below(self):
        archive = with_events()
        self.check(archive, "urn", (3, 1), LAST)
        self.check(archive, "bow", (LAST, 1), LAST)
        self.check(archive, "bow", (10000001, 1), LAST)
        self.check(archive, "bow", (10000000, 1), LAST - 1)

    def test_mended(self):
        archive = with_events((40, "bow", ("mend", 100)), (60, "bow", ("mend", 200)))
        # 400 parts at hour 40, 110 at 41, 300 at 60, 210 at 61.
        self.check(archive, "bow", (1, 100), 0)
        self.check(archive, "bow", (1, 10), 9)
        self.check(archive, "bow", (11, 100), 10)
        self.check(archive, "bow", (3, 25), 41)
        self.check(archive, "bow", (1, 5), 49)
        self.check(archive, "bow", (21, 100), 50)
        self.check(archive, "bow", (11, 50), 61)
        self.check(archive, "bow", (1, 1), 139)
        self.assertEqual(first_hour(archive, "bow", (1, 5)), 20)

    def test_mended_at_hour_0(self):
        archive = with_events((0, "saw", ("mend", 0)), (0, "bow", ("mend", 500)))
        self.check(archive, "saw", (1, 2), 4)
        self.check(archive, "bow", (1, 2), 0)

    def test_mended_at_the_end(self):
        self.check(with_events((LAST, "bow", ("mend", 0))), "bow", (1, 2), 49)
        self.check(with_events((LAST - 1, "bow", ("mend", 0))), "bow", (1, 2), LAST)

    def test_by_the_shares_of_all_hours(self):
        chance = random.Random(51)
        for _ in range(40):
            archive = made(chance, life=20000, rooms=3)
            for name, *_ in archive.told()[3]:
                shares = shares_by_hours(archive, name, 300)
                for above, below in shares_for(chance, archive, name, 300):
                    hour = last_hour(archive, name, (above, below))
                    self.check_last(archive, name, Fraction(above, below), hour)
                    under = [at for at, share in enumerate(shares) if share < Fraction(above, below)]
                    if hour is None or hour < 300:
                        self.assertEqual(hour, under[-1] if under else None)

    def check_last(self, archive, thing, share, hour):
        """Within stretches shares rise, so that the first hours of those behind are enough."""
        if hour is not None:
            self.assertLess(Fraction(*worn_share(archive, thing, hour)), share)
        behind = -1 if hour is None else hour
        for at in [0] + [first + 1 for first, _, _, _ in stretches(archive, thing, LAST)] + [behind + 1]:
            if behind < at <= LAST:
                self.assertGreaterEqual(Fraction(*worn_share(archive, thing, at)), share)

    def test_lacks(self):
        archive = with_events((5, "saw", ("move", "cave")), (9, "saw", ("mend", 0)), (9, "saw", ("move", "den")),
                              (12, "saw", ("move", "hall")), (12, "saw", ("mend", 0)))
        for share in ((0, 1), (1, 2), (LAST, 1)):
            with self.assertRaises(Lacking) as caught:
                last_hour(archive, "saw", share)
            self.assertEqual(caught.exception.room, "cave")
        with self.assertRaises(Lacking):
            last_hour(with_events((LAST - 1, "saw", ("move", "den"))), "saw", (0, 1))
        self.check(with_events((LAST, "saw", ("move", "den"))), "saw", (0, 1), None)


class All(unittest.TestCase):
    def test_in_the_order_of_things(self):
        archive = with_events()
        self.assertEqual(all_hours(archive, (1, 1)), [("bow", 100), ("saw", 5), ("urn", 0),
                                                     ("flag", first_hour(archive, "flag", (1, 1)))])
        self.assertEqual(all_hours(archive, (3, 1))[2], ("urn", None))
        self.assertEqual(all_hours(with_events(things=[]), (1, 1)), [])

    def test_lacks(self):
        things = [("bow", "wood", "hall", "", 500), ("saw", "iron", "cave", "", 30), ("urn", "clay", "den", "", 0)]
        archive = with_events(things=things)
        self.assertEqual(all_hours(archive, (0, 1)), [("bow", 0), ("saw", 0), ("urn", 0)])
        for share, room in (((1, 2), "den"), ((3, 5), "cave")):
            with self.assertRaises(Lacking) as caught:
                all_hours(archive, share)
            self.assertEqual(caught.exception.room, room)


class Worst(unittest.TestCase):
    def test_the_greatest_share(self):
        archive = with_events()
        self.assertEqual(worst_thing(archive, 0), "urn")
        self.assertEqual(worst_thing(archive, 12), "urn")
        self.assertEqual(worst_thing(archive, 13), "saw")
        self.assertEqual(worst_thing(with_events((20, "saw", ("mend", 0))), 30), "urn")
        self.assertEqual(worst_thing(with_events((20, "saw", ("mend", 0))), LAST), "saw")

    def test_of_alike_ones_the_first(self):
        things = [("axe", "clay", "hall", "", 0), ("bow", "wood", "hall", "", 100), ("cup", "iron", "hall", "", 6),
                  ("rug", "clay", "hall", "", 0)]
        self.assertEqual(worst_thing(with_events(things=things), 0), "bow")
        things.reverse()
        self.assertEqual(worst_thing(with_events(things=things), 0), "cup")
        self.assertEqual(worst_thing(with_events(things=[things[0], things[3]]), 9), "rug")

    def test_without_things(self):
        archive = with_events(things=[])
        self.assertIsNone(worst_thing(archive, 0))
        self.assertIsNone(worst_thing(archive, LAST))
        for hour in NO_HOURS:
            with self.assertRaises(OutOfPlace):
                worst_thing(archive, hour)

    def test_by_the_shares(self):
        chance = random.Random(52)
        for _ in range(60):
            archive = made(chance, things=6)
            hour = chance.randint(0, 200)
            shares = [Fraction(*worn_share(archive, thing[0], hour)) for thing in archive.told()[3]]
            self.assertEqual(worst_thing(archive, hour), archive.told()[3][shares.index(max(shares))][0])

    def test_lacks(self):
        archive = with_events((5, "flag", ("move", "cave")), (9, "urn", ("move", "den")))
        self.assertEqual(worst_thing(archive, 5), "urn")
        for hour, room in ((6, "cave"), (9, "cave"), (10, "den")):
            with self.assertRaises(Lacking) as caught:
                worst_thing(archive, hour)
            self.assertEqual(caught.exception.room, room)
        for hour in NO_HOURS:
            with self.assertRaises(OutOfPlace):
                worst_thing(archive, hour)


class Refused(unittest.TestCase):
    def setUp(self):
        self.archive = with_events(things=[*THINGS, ("rug", "wood", "den", "", 0)])

    def refuse(self, function, *handed):
        with self.assertRaises(OutOfPlace):
            function(self.archive, *handed)

    def test_no_things(self):
        for thing in NO_THINGS:
            for share in ((1, 2), None):
                self.refuse(first_hour, thing, share)
                self.refuse(last_hour, thing, share)

    def test_no_shares(self):
        for share in NO_SHARES:
            for thing in ("bow", "rug"):
                self.refuse(first_hour, thing, share)
                self.refuse(last_hour, thing, share)
            self.refuse(all_hours, share)
            with self.assertRaises(OutOfPlace):
                all_hours(with_events(things=[]), share)

    def test_the_greatest_shares(self):
        for share in ((LAST, 1), (999999999, 1000000), (1, 1000000), (0, 1)):
            first_hour(self.archive, "bow", share)
            last_hour(self.archive, "bow", share)


class Full(unittest.TestCase):
    def test_an_archive_as_full_as_it_may_be(self):
        """Twelve things, forty events, rooms of five rows and three seasons: told in no long time."""
        chance = random.Random(53)
        day = tuple((hour, hour, 90 - hour) for hour in (0, 5, 9, 14, 20))
        rooms = [(name, 12, (), day, ((at, 1, -3), (90, 5, 9), (300, -4, 20))) for at, name in enumerate("abcd")]
        kinds = [("wood", LAST, (2, 5, 11, 19, 31), (10, 30, 60, 70, 97), tuple(
            tuple(chance.randint(0, 1) for _ in range(5)) for _ in range(5)))]
        things = [(name, "wood", "a", "", 0) for name in "abcdefghijkl"]
        events = [(at * 20000000, chance.choice("abcdefghijkl"), chance.choice((
            ("move", "b"), ("move", "c"), ("lend", 7000000, 20, 30), ("mend", 50000000)))) for at in range(40)]
        archive = Archive(kinds, rooms, [], things, events)
        for share in ((1, 5), (99, 1000), (1, 1)):
            for name, hour in all_hours(archive, share):
                if hour:
                    self.assertGreaterEqual(Fraction(*worn_share(archive, name, hour)), Fraction(*share))
                    self.assertLess(Fraction(*worn_share(archive, name, hour - 1)), Fraction(*share))
                LastHour.check_last(self, archive, name, Fraction(*share), last_hour(archive, name, share))


class Own(unittest.TestCase):
    def test_what_was_told_and_handed_in_stays(self):
        lists = (list(KINDS), list(ROOMS), [], list(THINGS), [(3, "bow", ("mend", 2))])
        archive = Archive(*lists)
        told, again = all_hours(archive, (1, 1)), all_hours(archive, (1, 1))
        told.clear()
        first_hour(archive, "bow", (1, 1))
        last_hour(archive, "bow", (1, 1))
        worst_thing(archive, 5)
        self.assertEqual(all_hours(archive, (1, 1)), again)
        self.assertEqual(archive.told(), lists)


class Files(unittest.TestCase):
    def test_all_is_defined_in_its_file(self):
        for function in (first_hour, last_hour, all_hours, worst_thing):
            self.assertEqual(function.__module__, when.__name__)


if __name__ == "__main__":
    unittest.main()
