"""End shares and plans, against the story and against all layouts one by one."""

import itertools
import random
import time
import unittest
from fractions import Fraction

from lastingly import plan
from lastingly.archive import Archive
from lastingly.chains import better_chain
from lastingly.errors import Lacking, NoPlan, OutOfPlace
from lastingly.plan import end_shares, plan_for
from layouts import all_chains, all_layouts, after, may_lie, rank, shares_in, told_end_share
from made import made
from reckoning import pair, span

LAST = 1000000000
KINDS = [
    ("wood", 1000, (15,), (0, 100), ((0, 100),)),
    ("iron", 500, (15,), (0, 100), ((0, 100),)),
    ("clay", 10, (15,), (50,), ((0,),)),
]
NO_SPANS = ((5, 5), (6, 5), (0, 0), (LAST, LAST), (LAST, 0), (-1, 5), (-5, -1), (0, LAST + 1), (LAST, LAST + 1), (None, 5),
            (0, None), (True, 5), (0, True), (False, 1), ("0", 5), (0, "5"), (0.0, 5), (0, 5.0), ([0], 5), (0, (5,)),
            ({}, 5), (0, object()))


def room(name, shelves, wet, kinds=()):
    return name, shelves, kinds, ((0, 15, wet),), ()


def archive_of(rooms, things, events=(), boxes=()):
    return Archive(KINDS, rooms, list(boxes), [(name, kind, rooms[0][0] if told is None else told, "", parts)
                                               for name, kind, told, parts in things], list(events))


def bows(many, parts=0):
    """Wooden things, named a, b and so on."""
    return [(name, "wood", None, parts) for name in "abcdefghijkl"[:many]]


HALL, LOFT, DEN = room("hall", 2, 10), room("loft", 1, 5), room("den", 1, 20)


class EndShares(unittest.TestCase):
    def test_by_hand(self):
        archive = archive_of([HALL, LOFT, DEN], [("bow", "wood", "hall", 100), ("saw", "iron", "den", 0)])
        self.assertEqual(end_shares(archive, 0, 10), [[(1, 5), (3, 20), (3, 10)], [(1, 5), (1, 10), (2, 5)]])
        # Ahead of the span it lies where it is told to lie.
        self.assertEqual(end_shares(archive, 10, 20), [[(3, 10), (1, 4), (2, 5)], [(3, 5), (1, 2), (4, 5)]])

    def test_none_by_kind_and_without_shelves(self):
        rooms = [HALL, room("loft", 1, 5, ("iron",)), room("den", 0, 20), room("mine", 3, 7, ("wood", "clay"))]
        archive = archive_of(rooms, [("bow", "wood", "hall", 0), ("saw", "iron", "hall", 0), ("urn", "clay", "den", 1)])
        self.assertEqual(end_shares(archive, 0, 100), [
            [(1, 1), None, None, (7, 10)], [(2, 1), (1, 1), None, None], [(1, 10), None, None, (1, 10)]])

    def test_in_no_box_whatever_the_events_tell(self):
        events = [(5, "bow", ("box", "case")), (20, "bow", ("move", "den")), (20, "bow", ("mend", 0)),
                  (25, "bow", ("mend", 3)), (26, "bow", ("box", "")), (29, "bow", ("lend", 50, 0, 0))]
        archive = archive_of([HALL, LOFT, DEN], [("bow", "wood", None, 0)], events, [("case", 40, 40)])
        # 50 parts by hour 5, 650 by hour 20.
        self.assertEqual(end_shares(archive, 20, 30), [[(3, 4), (7, 10), (17, 20)]])
        self.assertEqual(end_shares(archive, 20, 21), [[(33, 50), (131, 200), (67, 100)]])
        # At hour 21 it was mended, and has lain in den for an hour.
        self.assertEqual(end_shares(archive, 21, 31)[0][0], pair(Fraction(40 + 100, 1000)))

    def test_a_lending_ends_with_the_span(self):
        archive = archive_of([HALL, LOFT, DEN], [("bow", "wood", None, 0)], [(2, "bow", ("lend", 50, 0, 0))])
        self.assertEqual(end_shares(archive, 10, 20), [[(3, 25), (7, 100), (11, 50)]])

    def test_by_the_story(self):
        chance = random.Random(70)
        for _ in range(120):
            archive = made(chance, things=4, shelves=3)
            _, rooms, _, things, _ = archive.told()
            first = chance.randint(0, 300)
            behind = first + chance.choice((1, chance.randint(1, 50), chance.randint(1, 20000)))
            self.assertEqual(end_shares(archive, first, behind), [
                [told_end_share(archive, thing[0], row[0], first, behind) if may_lie(row, thing) else None
                 for row in rooms] for thing in things])

    def test_up_to_the_last_hour(self):
        archive = archive_of([HALL], [("bow", "wood", None, 7)])
        self.assertEqual(end_shares(archive, 0, LAST), [[pair(Fraction(7 + 10 * LAST, 1000))]])
        self.assertEqual(end_shares(archive, LAST - 1, LAST), [[pair(Fraction(7 + 10 * LAST, 1000))]])
        self.assertEqual(span(archive, "wood", "hall", "", 0, 3), 30)

    def test_without_things(self):
        archive = archive_of([HALL, room("den", 1, None)], [])
        self.assertEqual(end_shares(archive, 0, 5), [])
        self.assertEqual(plan_for(archive, 0, 5), ([], []))


class Plans(unittest.TestCase):
    def test_the_greatest_share_first(self):
        # The iron thing wears twice as fast, so that it has the one dry shelf.
        archive = archive_of([room("hall", 1, 10), LOFT], [("bow", "wood", None, 0), ("saw", "iron", None, 0)])
        self.assertEqual(plan_for(archive, 0, 10), (["hall", "loft"], [(1, 10), (1, 10)]))
        # Worn ahead it is the wooden one that has it.
        archive = archive_of([room("hall", 1, 10), LOFT], [("bow", "wood", None, 900), ("saw", "iron", None, 0)])
        self.assertEqual(plan_for(archive, 0, 10), (["loft", "hall"], [(19, 20), (1, 5)]))

    def test_alike_shares_by_the_numbers_of_rooms(self):
        rooms = [room("hall", 2, 10), room("loft", 2, 10), room("den", 2, 10)]
        self.assertEqual(plan_for(archive_of(rooms, bows(3)), 0, 9)[0], ["hall", "hall", "loft"])
        self.assertEqual(plan_for(archive_of(rooms, bows(5)), 0, 9)[0], ["hall", "hall", "loft", "loft", "den"])
        rooms = [room("hall", 1, 10), room("loft", 1, 10, ("iron",)), room("den", 1, 10)]
        things = [("a", "iron", None, 0), ("b", "wood", None, 0)]
        self.assertEqual(plan_for(archive_of(rooms, things), 0, 9)[0], ["hall", "den"])
        # What does not wear lies in the first room wherever that costs the others nothing.
        rooms = [room("hall", 1, 10), room("loft", 1, 5)]
        things = [("a", "clay", None, 0), ("b", "wood", None, 0)]
        self.assertEqual(plan_for(archive_of(rooms, things), 0, 9)[0], ["hall", "loft"])
        things.reverse()
        self.assertEqual(plan_for(archive_of(rooms, things), 0, 9)[0], ["loft", "hall"])

    def test_the_least_list_thing_by_thing(self):
        rooms = [room("hall", 1, 10, ("wood", "iron")), room("loft", 2, 10), room("den", 1, 10)]
        things = [("a", "clay", "loft", 0), ("b", "clay", "loft", 0), ("c", "wood", None, 0), ("d", "wood", None, 0)]
        self.assertEqual(plan_for(archive_of(rooms, things), 0, 9)[0], ["loft", "loft", "hall", "den"])

    def test_the_first_things_room_tells_more_than_those_of_all_others(self):
        rooms = [room("hall", 1, 10), room("loft", 1, 10, ("wood",)), room("den", 1, 10, ("clay",)),
                 room("mine", 0, 10), room("barn", 0, 10), room("yard", 1, 10, ("iron",))]
        things = [("a", "wood", None, 0), ("b", "iron", None, 0), ("c", "clay", None, 0)]
        self.assertEqual(plan_for(archive_of(rooms, things), 0, 9)[0], ["hall", "yard", "den"])

    def test_full_rooms(self):
        rooms = [room("hall", 1, 50), room("loft", 2, 0), room("den", 1, 20)]
        archive = archive_of(rooms, [("a", "wood", None, 0), ("b", "wood", None, 5), ("c", "wood", None, 9),
                                     ("d", "wood", None, 2)])
        self.assertEqual(plan_for(archive, 0, 10), (
            ["hall", "loft", "loft", "den"], [(1, 2), (1, 200), (9, 1000), (101, 500)]))

    def test_later_shares_count_too(self):
        # Thing a has no choice and is the worst; the rest is still as good as it can be.
        rooms = [room("hall", 1, 90, ("iron",)), room("loft", 1, 9, ("wood",)), room("den", 1, 3, ("wood",))]
        things = [("a", "iron", None, 0), ("b", "wood", "loft", 100), ("c", "wood", "loft", 0)]
        self.assertEqual(plan_for(archive_of(rooms, things), 0, 10), (
            ["hall", "den", "loft"], [(9, 5), (13, 100), (9, 100)]))

    def test_against_all_layouts(self):
        chance = random.Random(71)
        found = 0
        for _ in range(400):
            archive = made(chance, kinds=3, things=5, rooms=4, shelves=chance.choice((1, 2, 3)),
                           life=chance.choice((3, 100, 100000)))
            first = chance.randint(0, 300)
            behind = first + chance.randint(1, 300)
            layouts = all_layouts(archive)
            if layouts:
                found += 1
                shares = shares_in(archive, first, behind)
                best = min(layouts, key=lambda layout: rank(archive, shares, layout))
                self.assertEqual(plan_for(archive, first, behind), (
                    best, [pair(by_room[name]) for by_room, name in zip(shares, best)]))
            else:
                with self.assertRaises(NoPlan):
                    plan_for(archive, first, behind)
        self.assertGreater(found, 100)

    def test_six_rooms_of_twelve_shelves_and_twelve_things(self):
        chance = random.Random(72)
        for shelves in (12, 3, 2):
            archive = self.full(chance, shelves)
            began = time.perf_counter()
            rooms, told = plan_for(archive, 5, LAST)
            self.assertLess(time.perf_counter() - began, 5)
            self.assertEqual(told, [row[["a", "b", "c", "d", "e", "f"].index(name)] for row, name in zip(
                end_shares(archive, 5, LAST), rooms)])
            self.assertIsNone(better_chain(archive, 5, LAST, rooms))
            self.check_no_short_chain(archive, rooms)

    def full(self, chance, shelves):
        kinds = [(name, LAST, (2, 19, 31), (10, 60, 97), tuple(
            tuple(chance.randint(0, 1000) for _ in range(3)) for _ in range(3))) for name in ("wood", "iron", "silk")]
        rooms = [(name, shelves, (), tuple((hour, chance.randint(0, 40), chance.randint(0, 100))
                                                         for hour in (0, 5, 9, 14, 20)),
                  ((at, 1, -3), (90, 5, 9), (300, -4, 20))) for at, name in enumerate("abcdef")]
        things = [(name, chance.choice(kinds)[0], "a", "", chance.randint(0, LAST)) for name in "abcdefghijkl"]
        return Archive(kinds, rooms, [], things, [])

    def check_no_short_chain(self, archive, layout):
        """No move and no two moves better a plan."""
        shares = [{room[0]: Fraction(*share) for room, share in zip(archive.told()[1], row)}
                  for row in end_shares(archive, 5, LAST)]
        best = rank(archive, shares, layout)
        names = [thing[0] for thing in archive.told()[3]]
        for one, other in itertools.combinations(range(12), 2):
            changed = list(layout)
            changed[one], changed[other] = layout[other], layout[one]
            self.assertGreaterEqual(rank(archive, shares, changed), best)
        for at, name in itertools.product(range(12), "abcdef"):
            if layout.count(name) < archive.told()[1][0][1]:
                self.assertGreaterEqual(rank(archive, shares, after(archive, layout, [(names[at], name)])), best)

    def test_no_chain_betters_a_plan(self):
        chance = random.Random(73)
        for _ in range(20):
            archive = made(chance, things=5, rooms=3, shelves=3)
            if all_layouts(archive):
                shares = shares_in(archive, 3, 90)
                layout, _ = plan_for(archive, 3, 90)
                for chain in all_chains(archive, layout):
                    self.assertGreater(rank(archive, shares, after(archive, layout, chain)), rank(
                        archive, shares, layout))


class NoPlans(unittest.TestCase):
    def check(self, archive, things, rooms):
        with self.assertRaises(NoPlan) as caught:
            plan_for(archive, 0, 5)
        self.assertEqual((caught.exception.things, caught.exception.rooms), (things, rooms))
        self.assertIs(type(caught.exception.things), list)
        self.assertIs(type(caught.exception.rooms), list)

    def test_by_shelves(self):
        self.check(archive_of([HALL, LOFT], bows(4)), ["a", "b", "c", "d"], ["hall", "loft"])
        self.check(archive_of([HALL, LOFT], bows(6)), ["a", "b", "c", "d"], ["hall", "loft"])

    def test_by_kinds(self):
        rooms = [room("hall", 1, 5, ("iron",)), room("loft", 5, 5, ("wood",)), room("den", 1, 5, ("iron", "clay"))]
        things = [("bow", "wood", "loft", 0), ("saw", "iron", None, 0), ("axe", "iron", None, 0),
                  ("adze", "iron", None, 0)]
        self.check(archive_of(rooms, things), ["saw", "axe", "adze"], ["hall", "den"])

    def test_things_that_no_room_has_a_shelf_for(self):
        rooms = [HALL, room("den", 0, 5), room("loft", 0, 9)]
        kinds = [room("hall", 9, 5, ("wood",)), room("den", 0, 5), room("loft", 0, 5, ("iron",))]
        things = [("bow", "wood", None, 0), ("saw", "iron", "den", 0), ("axe", "iron", "den", 0)]
        self.check(archive_of(kinds, things), ["saw"], [])
        self.check(archive_of(rooms[1:], bows(2)), ["a"], [])

    def test_of_as_few_things_the_first(self):
        rooms = [room("hall", 1, 5, ("iron",)), room("loft", 1, 5, ("wood",)), room("den", 9, 5, ("clay",))]
        things = [("urn", "clay", "den", 0), ("a", "wood", "loft", 0), ("b", "iron", None, 0), ("c", "iron", None, 0),
                  ("d", "wood", "loft", 0), ("e", "wood", "loft", 0)]
        self.check(archive_of(rooms, things), ["a", "d"], ["loft"])
        self.check(archive_of(rooms, things[1:4] + things[5:]), ["a", "e"], ["loft"])
        self.check(archive_of(rooms, [things[2], things[1], things[4], things[3]]), ["b", "c"], ["hall"])

    def test_fewer_things_ahead_of_earlier_ones(self):
        rooms = [room("hall", 2, 5, ("iron",)), room("loft", 1, 5, ("wood",))]
        things = [("a", "iron", None, 0), ("b", "iron", None, 0), ("c", "iron", None, 0), ("d", "wood", "loft", 0),
                  ("e", "wood", "loft", 0)]
        self.check(archive_of(rooms, things), ["d", "e"], ["loft"])

    def test_against_all_sets(self):
        chance = random.Random(74)
        found = 0
        for _ in range(300):
            archive = made(chance, kinds=3, things=6, rooms=4, shelves=2)
            _, rooms, _, things, _ = archive.told()
            if not all_layouts(archive):
                found += 1
                self.check(archive, *next(
                    ([thing[0] for thing in some], [row[0] for row in theirs])
                    for many in range(1, 7) for some in itertools.combinations(things, many)
                    for theirs in [[row for row in rooms if any(may_lie(row, thing) for thing in some)]]
                    if sum(row[1] for row in theirs) < many))
        self.assertGreater(found, 50)

    def test_twelve_things(self):
        self.check(archive_of([room("hall", 11, 5)], bows(12)), list("abcdefghijkl"), ["hall"])


class Lacks(unittest.TestCase):
    def refuse(self, archive, name):
        for function in (end_shares, plan_for):
            with self.assertRaises(Lacking) as caught:
                function(archive, 0, 5)
            self.assertEqual(caught.exception.room, name)

    def test_the_first_room_that_takes_a_kind(self):
        rooms = [HALL, room("loft", 1, None, ("clay",)), room("den", 1, None), room("mine", 1, None, ("wood",))]
        self.refuse(archive_of(rooms, bows(1)), "den")
        self.refuse(archive_of(rooms, [("urn", "clay", None, 0)]), "loft")
        self.refuse(archive_of(rooms, [*bows(1), ("urn", "clay", None, 0)]), "loft")
        # Also where there is no layout.
        self.refuse(archive_of(rooms, bows(12)), "den")

    def test_without_shelves(self):
        self.refuse(archive_of([HALL, room("den", 0, None)], bows(1)), "den")

    def test_rooms_that_take_no_things_kind(self):
        archive = archive_of([HALL, room("loft", 1, None, ("clay", "iron"))], bows(2))
        self.assertEqual(plan_for(archive, 0, 5)[0], ["hall", "hall"])
        self.assertEqual(end_shares(archive, 0, 10), [[(1, 10), None], [(1, 10), None]])

    def test_a_row_that_is_not_met(self):
        day = ((0, 15, 5), (9, None, 5))
        archive = archive_of([HALL, ("den", 1, (), day, ())], bows(1))
        self.refuse(archive, "den")


class Refused(unittest.TestCase):
    def test_no_spans(self):
        lacking = [HALL, room("den", 0, None)]
        for archive in (archive_of([HALL], bows(1)), archive_of([HALL], bows(9)), archive_of(lacking, bows(1)),
                        archive_of([HALL], [])):
            for first, behind in NO_SPANS:
                for function in (end_shares, plan_for):
                    with self.assertRaises(OutOfPlace):
                        function(archive, first, behind)


class Own(unittest.TestCase):
    def test_what_was_told_and_handed_in_stays(self):
        archive = archive_of([HALL, LOFT], bows(3))
        before = archive.told()
        shares, (rooms, told) = end_shares(archive, 0, 5), plan_for(archive, 0, 5)
        kept = [list(row) for row in shares], list(rooms), list(told)
        for rows in (*shares, shares, rooms, told):
            rows.clear()
        self.assertEqual((end_shares(archive, 0, 5), *plan_for(archive, 0, 5)), kept)
        self.assertEqual(archive.told(), before)

    def test_kinds_of_values(self):
        archive = archive_of([HALL, LOFT], bows(3))
        told = plan_for(archive, 0, 5)
        self.assertEqual([type(part) for part in (told, *told, *told[1])], [tuple, list, list, tuple, tuple, tuple])
        self.assertEqual([type(row) for row in (end_shares(archive, 0, 5), *end_shares(archive, 0, 5))], [list] * 4)


class Files(unittest.TestCase):
    def test_all_is_defined_in_its_file(self):
        for function in (end_shares, plan_for):
            self.assertEqual(function.__module__, plan.__name__)


if __name__ == "__main__":
    unittest.main()
