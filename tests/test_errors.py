"""Errors: which stands under which, and their fields."""

import unittest

from lastingly import errors
from lastingly.errors import ArchiveError, BadArchive, BadRow, Lacking, NoPlan, OutOfPlace


class Classes(unittest.TestCase):
    def test_any_refusal_stands_straight_under_value_error(self):
        self.assertEqual(ArchiveError.__bases__, (ValueError,))

    def test_each_refusal_stands_straight_under_archive_error(self):
        for refusal in (BadRow, BadArchive, Lacking, NoPlan, OutOfPlace):
            self.assertEqual(refusal.__bases__, (ArchiveError,), refusal)

    def test_none_stands_under_another_one(self):
        made = (BadRow(1, 0), BadArchive("twice", "saw"), Lacking("hall"), NoPlan([], []), OutOfPlace("no hour"))
        for place, refusal in enumerate(made):
            with self.assertRaises(ArchiveError):
                raise refusal
            for other_place, other in enumerate(made):
                self.assertEqual(isinstance(refusal, other.__class__), place == other_place)

    def test_all_are_defined_in_their_file(self):
        for refusal in (ArchiveError, BadRow, BadArchive, Lacking, NoPlan, OutOfPlace):
            self.assertEqual(refusal.__module__, errors.__name__)


class Fields(unittest.TestCase):
    def test_bad_row(self):
        refusal = BadRow(3, 2)
        self.assertEqual((refusal.row, refusal.word), (3, 2))
        refusal = BadRow(1, 0)
        self.assertEqual((refusal.row, refusal.word), (1, 0))

    def test_bad_archive(self):
        refusal = BadArchive("twice", "saw")
        self.assertEqual((refusal.what, refusal.name), ("twice", "saw"))

    def test_lacking(self):
        self.assertEqual(Lacking("hall").room, "hall")

    def test_no_plan(self):
        refusal = NoPlan(["saw", "axe"], ["hall"])
        self.assertEqual((refusal.things, refusal.rooms), (["saw", "axe"], ["hall"]))
        refusal = NoPlan(["saw"], [])
        self.assertEqual((refusal.things, refusal.rooms), (["saw"], []))

    def test_no_plan_does_not_keep_the_lists(self):
        things, rooms = ["saw", "axe"], ["hall"]
        refusal = NoPlan(things, rooms)
        things.append("bow")
        rooms.clear()
        self.assertEqual((refusal.things, refusal.rooms), (["saw", "axe"], ["hall"]))
        refusal.things.clear()
        refusal.rooms.append("loft")
        self.assertEqual((things, rooms), (["saw", "axe", "bow"], []))
        # Nor are the lists kept behind the fields, where a refusal keeps what it was made of.
        self.assertFalse([kept for kept in refusal.args if kept is things or kept is rooms])

    def test_out_of_place_is_made_of_a_text(self):
        self.assertEqual(str(OutOfPlace("no such room")), "no such room")

    def test_fields_are_of_each_object(self):
        one, other = Lacking("hall"), Lacking("loft")
        self.assertEqual((one.room, other.room), ("hall", "loft"))


if __name__ == "__main__":
    unittest.main()
