"""Archive: its five lists as they are, each time in lists of the asker's own."""

import unittest

from lastingly import archive
from lastingly.archive import Archive
from samples import boxes, events, five_lists, kinds, rooms, things


def change(lists):
    """Changes each of five lists in a way of its own, so that none stays as it was."""
    lists[0].clear()
    lists[1].append(("cellar", 1, (), ((0, 1, 1),), ()))
    lists[2].reverse()
    lists[3][0] = ("axe", "iron", "hall", "", 0)
    lists[4].pop()


class Told(unittest.TestCase):
    def test_lists_as_they_are(self):
        self.assertEqual(Archive(*five_lists()).told(), five_lists())

    def test_one_kind_and_one_room(self):
        told = Archive(kinds()[:1], rooms()[:1], [], [], []).told()
        self.assertEqual(told, (kinds()[:1], rooms()[:1], [], [], []))

    def test_as_many_as_there_may_be(self):
        full = (kinds()[:1] * 6, rooms()[:1] * 6, boxes()[:1] * 4, things()[:1] * 12, events()[:1] * 40)
        self.assertEqual(Archive(*full).told(), full)

    def test_a_tuple_of_lists_of_tuples(self):
        told = Archive(*five_lists()).told()
        self.assertIs(type(told), tuple)
        self.assertEqual(len(told), 5)
        for rows in told:
            self.assertIs(type(rows), list)
            for row in rows:
                self.assertIs(type(row), tuple)

    def test_making_one_does_not_look_through_it(self):
        twice = (kinds() * 2, [], boxes()[:1] * 2, [("saw", "clay", "attic", "bag", 0)], [(3, "axe", ("mend", 1))])
        self.assertEqual(Archive(*twice).told(), twice)


class Own(unittest.TestCase):
    def test_what_is_handed_in_is_not_changed(self):
        handed = five_lists()
        Archive(*handed).told()
        self.assertEqual(handed, five_lists())

    def test_what_is_handed_in_is_not_kept(self):
        handed = five_lists()
        made = Archive(*handed)
        change(handed)
        self.assertEqual(made.told(), five_lists())

    def test_a_change_of_what_is_told_changes_nothing(self):
        handed = five_lists()
        made = Archive(*handed)
        change(made.told())
        self.assertEqual(made.told(), five_lists())
        self.assertEqual(handed, five_lists())

    def test_what_was_told_ahead_stays(self):
        handed = five_lists()
        made = Archive(*handed)
        ahead = made.told()
        change(made.told())
        change(handed)
        made.told()
        self.assertEqual(ahead, five_lists())

    def test_each_told_list_is_one_of_its_own(self):
        handed = five_lists()
        made = Archive(*handed)
        one, other = made.told(), made.told()
        for place in range(5):
            self.assertIsNot(one[place], other[place])
            self.assertIsNot(one[place], handed[place])

    def test_one_list_handed_in_five_times(self):
        alike = []
        told = Archive(alike, alike, alike, alike, alike).told()
        told[0].append(kinds()[0])
        self.assertEqual(told[1:], ([], [], [], []))
        self.assertEqual(alike, [])

    def test_archives_made_of_the_same_lists(self):
        handed = five_lists()
        one, other = Archive(*handed), Archive(*handed)
        change(one.told())
        self.assertEqual(other.told(), five_lists())

    def test_an_archive_made_of_what_another_one_told(self):
        one = Archive(*five_lists())
        told = one.told()
        other = Archive(*told)
        change(told)
        self.assertEqual(one.told(), five_lists())
        self.assertEqual(other.told(), five_lists())


class Files(unittest.TestCase):
    def test_all_is_defined_in_its_file(self):
        self.assertEqual(Archive.__module__, archive.__name__)
        self.assertIn("told", Archive.__dict__)


if __name__ == "__main__":
    unittest.main()
