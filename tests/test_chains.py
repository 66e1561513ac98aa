"""Chains of moves, against all of them one by one."""

import itertools
import random
import time
import unittest
from fractions import Fraction

from lastingly import chains
from lastingly.archive import Archive
from lastingly.chains import better_chain, chain_done, hinders, steps_to_best
from lastingly.errors import Lacking, OutOfPlace
from lastingly.plan import end_shares, plan_for
from layouts import after, all_chains, all_layouts, is_chain, may_lie, rank, shares_in
from made import made

LAST = 1000000000
KINDS = [("wood", 1000, (15,), (0, 100), ((0, 100),)), ("iron", 500, (15,), (0, 100), ((0, 100),))]


def room(name, shelves, wet, kinds=()):
    return name, shelves, kinds, ((0, 15, wet),), ()


ROOMS = [room("hall", 2, 10), room("loft", 2, 5), room("den", 1, 20, ("wood",)), room("cave", 0, 0),
         room("mine", 2, 30)]
THINGS = [("a", "wood", "hall", "", 0), ("b", "wood", "hall", "", 10), ("c", "iron", "hall", "", 0),
          ("d", "wood", "hall", "", 90)]
ARCHIVE = Archive(KINDS, ROOMS, [], THINGS, [])
LAYOUT = ["hall", "hall", "loft", "den"]
NO_LISTS = (None, True, 5, "hall", "", {}, (), ("hall", "hall", "loft", "den"), object())
NO_LAYOUTS = NO_LISTS + (
    [], ["hall"], LAYOUT[:3], LAYOUT + ["mine"], ["hall", "hall", "hall", "den"], ["hall", "den", "loft", "den"],
    ["hall", "hall", "den", "loft"], ["hall", "cave", "loft", "den"], ["hall", "attic", "loft", "den"],
    ["hall", "", "loft", "den"], ["hall", None, "loft", "den"], ["hall", 1, "loft", "den"],
    ["hall", ["hall"], "loft", "den"], ["hall", True, "loft", "den"], [("a", "hall"), "hall", "loft", "den"])


class Done(unittest.TestCase):
    def check(self, chain, *layout):
        self.assertEqual(chain_done(ARCHIVE, LAYOUT, chain), list(layout))

    def refuse(self, chain, layout=LAYOUT):
        with self.assertRaises(OutOfPlace):
            chain_done(ARCHIVE, layout, chain)

    def test_one_move(self):
        self.check([("a", "loft")], "loft", "hall", "loft", "den")
        self.check([("b", "mine")], "hall", "mine", "loft", "den")
        self.check([("d", "loft")], "hall", "hall", "loft", "loft")

    def test_through_several_rooms(self):
        self.check([("a", "loft"), ("c", "mine")], "loft", "hall", "mine", "den")
        self.check([("a", "den"), ("d", "loft")], "den", "hall", "loft", "loft")
        self.check([("b", "den"), ("d", "loft"), ("c", "mine")], "hall", "den", "mine", "loft")
        # Its last room has a free shelf although the one amid the chain has one, too.
        self.check([("a", "mine")], "mine", "hall", "loft", "den")

    def test_back_into_the_room_that_the_first_thing_left(self):
        self.check([("a", "den"), ("d", "hall")], "den", "hall", "loft", "hall")
        self.check([("a", "loft"), ("c", "hall")], "loft", "hall", "hall", "den")
        self.check([("b", "den"), ("d", "loft"), ("c", "hall")], "hall", "den", "hall", "loft")

    def test_the_room_that_the_first_thing_left_amid_the_chain(self):
        self.check([("a", "den"), ("d", "hall"), ("b", "mine")], "den", "mine", "loft", "hall")
        self.check([("c", "hall"), ("a", "loft")], "loft", "hall", "hall", "den")
        self.check([("d", "loft"), ("c", "hall"), ("a", "den")], "den", "hall", "hall", "loft")
        self.check([("a", "den"), ("d", "hall"), ("b", "loft"), ("c", "mine")], "den", "loft", "mine", "hall")

    def test_the_layout_told_is_a_list_of_its_own(self):
        layout, chain = list(LAYOUT), [("a", "loft")]
        told = chain_done(ARCHIVE, layout, chain)
        told.clear()
        self.assertEqual((layout, chain), (LAYOUT, [("a", "loft")]))
        self.assertEqual(chain_done(ARCHIVE, layout, chain), ["loft", "hall", "loft", "den"])

    def test_full_rooms(self):
        self.refuse([("a", "den")])
        self.refuse([("c", "hall")])
        self.refuse([("d", "loft"), ("c", "hall")])
        # The first thing's room is not the one that it goes to.
        self.refuse([("d", "loft")], ["hall", "loft", "loft", "den"])

    def test_rooms_that_do_not_take_it(self):
        self.refuse([("c", "den")])
        self.refuse([("c", "den"), ("d", "loft")])
        self.refuse([("a", "cave")])
        self.refuse([("a", "attic")])

    def test_where_it_lies_already(self):
        self.refuse([("a", "hall")])
        self.refuse([("a", "mine"), ("c", "loft")])
        self.refuse([("d", "den")])

    def test_a_thing_or_a_room_twice(self):
        self.refuse([("a", "loft"), ("a", "mine")])
        self.refuse([("a", "den"), ("d", "hall"), ("a", "mine")])
        self.refuse([("a", "den"), ("d", "loft"), ("c", "hall"), ("b", "loft")])
        self.refuse([("a", "loft"), ("c", "hall"), ("b", "loft")])
        self.refuse([("c", "hall"), ("a", "den"), ("d", "hall")])

    def test_things_that_do_not_lie_where_the_one_ahead_goes(self):
        self.refuse([("a", "loft"), ("b", "mine")])
        self.refuse([("a", "mine"), ("c", "hall")])
        self.refuse([("a", "loft"), ("d", "mine")])
        self.refuse([("c", "mine"), ("a", "loft"), ("d", "hall")])

    def test_what_is_no_chain(self):
        for chain in (None, True, 5, "a", (), [], {}, {"a": "loft"}, (("a", "loft"),), [["a", "loft"]], ["a", "loft"],
                      ["al"], [("a",)], [("a", "loft", 1)], [("a", None)], [(None, "loft")], [("x", "loft")], [("", "")],
                      [("loft", "a")], [(0, 1)], [(True, "loft")], [(["a"], "loft")], [("a", ["loft"])], [None],
                      [("a", "loft"), None], [("a", "loft"), ("c", "mine"), ()], object()):
            self.refuse(chain)

    def test_what_is_no_layout(self):
        for layout in NO_LAYOUTS:
            self.refuse([("a", "mine")], layout)
            self.refuse(None, layout)

    def test_without_things(self):
        archive = Archive(KINDS, ROOMS, [], [], [])
        for chain in ([], [("a", "loft")]):
            with self.assertRaises(OutOfPlace):
                chain_done(archive, [], chain)

    def test_against_all_moves(self):
        chance = random.Random(80)
        for _ in range(60):
            archive = made(chance, things=4, rooms=3, shelves=2)
            layouts = all_layouts(archive)
            names = [thing[0] for thing in archive.told()[3]]
            moves = list(itertools.product(names, [row[0] for row in archive.told()[1]]))
            for layout in chance.sample(layouts, min(2, len(layouts))):
                for many in range(4):
                    for chain in itertools.product(moves, repeat=many) if many < 3 else [
                            tuple(chance.choices(moves, k=many)) for _ in range(100)]:
                        self.check_chain(archive, layout, list(chain))
                for chain in all_chains(archive, layout):
                    self.check_chain(archive, layout, chain)

    def check_chain(self, archive, layout, chain):
        if is_chain(archive, layout, chain):
            self.assertEqual(chain_done(archive, layout, chain), after(archive, layout, chain))
        else:
            with self.assertRaises(OutOfPlace):
                chain_done(archive, layout, chain)

    def test_chains_give_layouts(self):
        chance = random.Random(81)
        for _ in range(30):
            archive = made(chance, things=4, rooms=3, shelves=2)
            layouts = all_layouts(archive)
            for layout in layouts[:6]:
                for chain in all_chains(archive, layout):
                    self.assertIn(chain_done(archive, layout, chain), layouts)


class Better(unittest.TestCase):
    def test_by_hand(self):
        self.assertEqual(plan_for(ARCHIVE, 0, 10)[0], ["hall", "hall", "loft", "loft"])
        chain = better_chain(ARCHIVE, 0, 10, LAYOUT)
        self.assertEqual(chain, [("d", "loft")])
        self.assertIsNone(better_chain(ARCHIVE, 0, 10, ["hall", "hall", "loft", "loft"]))

    def test_alike_shares(self):
        # Both lie as well turned round, so that the numbers of rooms tell.
        things = [("a", "wood", "hall", "", 0), ("b", "wood", "hall", "", 0)]
        archive = Archive(KINDS, [room("hall", 1, 5), room("loft", 1, 5)], [], things, [])
        self.assertIsNone(better_chain(archive, 0, 5, ["hall", "loft"]))
        chain = better_chain(archive, 0, 5, ["loft", "hall"])
        self.assertEqual(chain_done(archive, ["loft", "hall"], chain), ["hall", "loft"])

    def test_none_at_the_plans_layout_only(self):
        chance = random.Random(82)
        for _ in range(80):
            archive = made(chance, things=4, rooms=3, shelves=3, life=chance.choice((3, 100000)))
            first = chance.randint(0, 200)
            behind = first + chance.randint(1, 200)
            layouts = all_layouts(archive)
            shares = shares_in(archive, first, behind)
            for layout in chance.sample(layouts, min(8, len(layouts))) + layouts[:1]:
                chain = better_chain(archive, first, behind, layout)
                self.assertEqual(chain is None, layout == plan_for(archive, first, behind)[0])
                if chain is not None:
                    self.check_better(archive, shares, layout, chain)

    def check_better(self, archive, shares, layout, chain):
        """A chain, of a list of tuples, that betters a layout; the layout that it gives."""
        self.assertEqual([type(part) for part in (chain, *chain)], [list] + [tuple] * len(chain))
        self.assertTrue(is_chain(archive, layout, chain))
        given = chain_done(archive, layout, chain)
        self.assertLess(rank(archive, shares, given), rank(archive, shares, layout))
        return given

    def test_layouts_that_no_chain_betters(self):
        chance = random.Random(83)
        for _ in range(25):
            archive = made(chance, things=4, rooms=3, shelves=2, life=chance.choice((3, 100000)))
            layouts = all_layouts(archive)
            shares = shares_in(archive, 2, 50)
            for layout in layouts[:10]:
                betters = [chain for chain in all_chains(archive, layout) if rank(
                    archive, shares, after(archive, layout, chain)) < rank(archive, shares, layout)]
                self.assertEqual(betters == [], better_chain(archive, 2, 50, layout) is None)
                self.assertEqual(betters == [], layout == plan_for(archive, 2, 50)[0])


class Steps(unittest.TestCase):
    def check(self, archive, first, behind, layout):
        shares = [dict((row[0], Fraction(*share)) for row, share in zip(archive.told()[1], told) if share is not None)
                  for told in end_shares(archive, first, behind)]
        steps = steps_to_best(archive, first, behind, layout)
        self.assertIs(type(steps), list)
        for chain in steps:
            layout = Better.check_better(self, archive, shares, layout, chain)
        self.assertEqual(layout, plan_for(archive, first, behind)[0])
        return len(steps)

    def test_by_hand(self):
        self.assertEqual(steps_to_best(ARCHIVE, 0, 10, LAYOUT), [[("d", "loft")]])
        self.assertEqual(steps_to_best(ARCHIVE, 0, 10, ["hall", "hall", "loft", "loft"]), [])
        self.assertEqual(steps_to_best(Archive(KINDS, ROOMS, [], [], []), 0, 10, []), [])
        self.check(ARCHIVE, 0, 10, ["mine", "mine", "hall", "hall"])

    def test_all_layouts_of_one_archive(self):
        for layout in all_layouts(ARCHIVE):
            self.check(ARCHIVE, 0, 10, layout)

    def test_several_archives(self):
        chance = random.Random(84)
        for _ in range(80):
            archive = made(chance, things=5, rooms=4, shelves=3, life=chance.choice((3, 100000)))
            layouts = all_layouts(archive)
            for layout in chance.sample(layouts, min(6, len(layouts))):
                self.check(archive, 7, chance.randint(8, 300), layout)

    def test_six_rooms_and_twelve_things(self):
        chance = random.Random(85)
        kinds = [("wood", 1000, (15,), (0, 100), ((0, 100),)), ("iron", LAST, (15,), (0, 100), ((0, 1000),))]
        for shelves in (2, 3, 12):
            rooms = [room(name, shelves, chance.randint(0, 100)) for name in ("p", "q", "r", "s", "t", "u")]
            things = [(name, chance.choice(("wood", "iron")), "p", "", chance.randint(0, 1000)) for name in "abcdefghijkl"]
            archive = Archive(kinds, rooms, [], things, [])
            layout = [name for name in "pqrstu" for _ in range(2)]
            chance.shuffle(layout)
            began = time.perf_counter()
            self.assertLessEqual(self.check(archive, 0, LAST, layout), 12)
            self.assertLess(time.perf_counter() - began, 10)


class Hinders(unittest.TestCase):
    def test_by_hand(self):
        rooms = [room("hall", 1, 5, ("iron",)), room("loft", 2, 5, ("wood",)), room("den", 3, 5),
                 room("mine", 0, 5), room("barn", 7, 5, ("clay",))]
        things = [(name, kind, "den", "", 0) for name, kind in zip("abcdefg", ("wood", "iron") * 3 + ("clay",))]
        archive = Archive([*KINDS, ("clay", *KINDS[0][1:])], rooms, [], things, [])
        for names, told in (([], (0, False)), (["a"], (5, False)), (["b"], (4, False)), (["g"], (10, False)),
                            (["a", "b"], (6, False)), (["f", "d", "b"], (4, False)), (list("gfedcba"), (13, False))):
            self.assertEqual(hinders(archive, names), told)
        archive = Archive(KINDS, rooms[:2] + rooms[3:4], [], [(*thing[:2], "mine", *thing[3:]) for thing in things[:6]], [])
        for names, told in ((["b"], (1, False)), (["b", "d"], (1, True)), (["a", "c"], (2, False)),
                            (["a", "c", "b"], (3, False)), (["c", "e", "a"], (2, True)), (list("abcd"), (3, True))):
            self.assertEqual(hinders(archive, names), told)
            self.assertEqual([type(part) for part in hinders(archive, names)], [int, bool])

    def test_things_that_no_room_takes(self):
        archive = Archive(KINDS, [room("hall", 0, 5)], [], [("a", "wood", "hall", "", 0)], [])
        self.assertEqual(hinders(archive, ["a"]), (0, True))
        self.assertEqual(hinders(archive, []), (0, False))

    def test_against_all_sets(self):
        chance = random.Random(86)
        for _ in range(60):
            archive = made(chance, kinds=3, things=5, rooms=4, shelves=2)
            _, rooms, _, things, _ = archive.told()
            for many in range(6):
                for some in itertools.permutations(things, many):
                    shelves = sum(row[1] for row in rooms if any(may_lie(row, thing) for thing in some))
                    self.assertEqual(hinders(archive, [thing[0] for thing in some]), (shelves, shelves < many))

    def test_refused(self):
        for names in (None, True, 5, "a", "", (), ("a",), {}, {"a": 1}, ["x"], ["hall"], ["a", "a"], ["a", "b", "a"],
                      ["a", None], [None], [1], [True], [["a"]], [("a",)], [""], ["a", "x"], [THINGS[0]], object()):
            with self.assertRaises(OutOfPlace):
                hinders(ARCHIVE, names)


class Refused(unittest.TestCase):
    def refuse(self, archive, *handed):
        for function in (better_chain, steps_to_best):
            with self.assertRaises(OutOfPlace):
                function(archive, *handed)

    def setUp(self):
        self.lacking = Archive(KINDS, [*ROOMS, room("barn", 0, None)], [], THINGS, [])

    def test_no_layouts(self):
        for archive in (ARCHIVE, self.lacking):
            for layout in NO_LAYOUTS:
                self.refuse(archive, 0, 5, layout)

    def test_no_spans(self):
        for archive in (ARCHIVE, self.lacking):
            for first, behind in ((5, 5), (6, 5), (-1, 5), (LAST, LAST + 1), (0, LAST + 1), (None, 5), (0, None), (True, 5),
                                  (0, True), ("0", 5), (0, "5"), ([0], 5), (0.0, 5), (0, 5.0)):
                self.refuse(archive, first, behind, LAYOUT)

    def test_lacks(self):
        for function in (better_chain, steps_to_best):
            with self.assertRaises(Lacking) as caught:
                function(self.lacking, 0, 5, LAYOUT)
            self.assertEqual(caught.exception.room, "barn")


class Own(unittest.TestCase):
    def test_what_was_told_and_handed_in_stays(self):
        layout = ["mine", "mine", "hall", "hall"]
        before = ARCHIVE.told()
        steps = steps_to_best(ARCHIVE, 0, 10, layout)
        kept = [list(chain) for chain in steps]
        for chain in steps:
            chain.clear()
        steps.clear()
        better_chain(ARCHIVE, 0, 10, layout).clear()
        self.assertEqual(steps_to_best(ARCHIVE, 0, 10, layout), kept)
        names = ["a", "b"]
        hinders(ARCHIVE, names)
        self.assertEqual((layout, names, ARCHIVE.told()), (["mine", "mine", "hall", "hall"], ["a", "b"], before))


class Files(unittest.TestCase):
    def test_all_is_defined_in_its_file(self):
        for function in (chain_done, better_chain, steps_to_best, hinders):
            self.assertEqual(function.__module__, chains.__name__)


if __name__ == "__main__":
    unittest.main()
