"""A desk: its lines, what they answer, what is refused, and what is no line."""

import random
import unittest

from lastingly import desk
from lastingly.archiveread import read_archive
from lastingly.archivetext import archive_text, event_text
from lastingly.bounds import share_bounds
from lastingly.chains import better_chain
from lastingly.desk import Desk
from lastingly.errors import BadArchive, BadRow, Lacking, NoPlan, OutOfPlace
from lastingly.keeper import Keeper
from lastingly.plan import plan_for
from lastingly.when import first_hour, worst_thing
from made import made

LAST = 1000000000
TEXT = """\
kind wood 1000 : 15 : 0 100 : 0 100
kind iron 500 : 15 : 50 : 7
room hall 2 any : 0 15 50 , 12 15 10 : none
room loft 1 wood : 0 15 5 : none
room den 0 any : 0 15 20 : 0 0 1 , 100 3 -4
box chest 40 60
thing bow wood hall none 75
thing saw iron hall chest 0
at 24 bow move loft
at 30 saw lend 10 1 1"""
LACKING = """\
kind wood 1000 : 15 : 0 100 : 0 100
room hall 2 any : 0 15 50 : none
room den 1 any : 0 ? 10 , 5 15 ? : none
thing bow wood hall none 0
at 10 bow move den"""
BARE = """\
kind wood 1000 : 15 : 0 100 : 0 100
room hall 2 any : 0 15 50 : none"""


def fraction(told):
    return f"{told[0]}/{told[1]}"


def pairs(told):
    return ", ".join(f"{name} {part}" for name, part in told) or "none"


def answer(told):
    try:
        return told()
    except Lacking as error:
        return f"lacks {error.room}"
    except NoPlan as error:
        return f"no: {' '.join(error.things)} : {' '.join(error.rooms) or 'none'}"
    except (BadArchive, OutOfPlace):
        return "refused"


def lines(chance, keeper):
    """Pairs of a line and how a keeper and the functions tell its answer."""
    archive, hour = keeper.its_archive(), keeper.its_hour()
    kinds, rooms, _, things, events = archive.told()
    name, room, kind = chance.choice(things)[0], chance.choice(rooms)[0], chance.choice(kinds)[0]
    number, to, some = chance.randint(-1, len(events)), chance.randint(0, 99), chance.randint(0, 50)
    event = chance.randint(0, 99), name, chance.choice((("mend", to), ("move", room), ("box", ""), ("lend", 3, 4, 5)))
    warmth, wet = chance.choice((None, 5)), chance.choice((None, 70))
    readings = " ".join("?" if reading is None else str(reading) for reading in (warmth, wet))
    layout = [chance.choice(rooms)[0] for _ in things]
    return [
        ("shares", lambda: ", ".join(f"{thing} {fraction(share)}" for thing, share in keeper.all_shares())),
        (f"share {name}", lambda: fraction(keeper.share_of(name))),
        ("worst", lambda: worst_thing(archive, hour)),
        (f"bounds {name}", lambda: " ".join(map(fraction, share_bounds(archive, name, hour)))),
        (f"when {name} {some}/1", lambda: str(first_hour(archive, name, (some, 1))).replace("None", "never")),
        (f"plan {some} {to}", lambda: pairs(zip([thing[0] for thing in things], plan_for(archive, some, to)[0]))),
        (f"better {some} {to} {' '.join(layout)}",
         lambda: pairs(better_chain(archive, some, to, layout) or []).replace("none", "best")),
        (f"hour {to}", lambda: pairs(keeper.set_hour(to))),
        (f"put {number} {event_text(event)}", lambda: pairs(keeper.put_event(number, event))),
        (f"take {number}", lambda: pairs(keeper.take_event(number))),
        (f"read {room} {some} {readings}", lambda: pairs(keeper.set_reading(room, some, warmth, wet))),
        (f"read {room} 1 {readings}", lambda: pairs(keeper.set_reading(room, 1, warmth, wet))),
        (f"wear {kind} 1 1 {some}", lambda: pairs(keeper.set_wear(kind, 1, 1, some))),
        ("undo", lambda: pairs(keeper.undo())),
    ]


class Says(unittest.TestCase):
    def setUp(self):
        self.desk = Desk(TEXT)

    def say(self, line, told):
        self.assertEqual(self.desk.say(line), told)


class Questions(Says):
    def test_shares(self):
        self.say("shares", "bow 3/40, saw 0/1")
        self.say("share bow", "3/40")
        self.say("share saw", "0/1")
        self.desk.say("hour 10")
        self.say("shares", "bow 23/40, saw 7/50")
        self.say("share bow", "23/40")
        self.desk.say("hour 1000")
        self.say("share saw", "14/1")

    def test_the_worst(self):
        self.say("worst", "bow")
        self.desk.say("hour 500")
        self.say("worst", "saw")

    def test_bounds(self):
        self.say("bounds bow", "3/40 3/40")
        held = Desk(LACKING)
        self.assertEqual(held.say("bounds bow"), "0/1 0/1")
        held.say("put 0 at 0 bow mend 0")
        self.assertEqual(held.say("bounds bow"), "0/1 0/1")
        self.assertEqual(held.say("hour 10"), "bow 0")
        self.assertEqual(held.say("bounds bow"), "1/2 1/2")

    def test_when(self):
        self.say("when bow 3/40", "0")
        self.say("when bow 0/1", "0")
        self.say("when bow 1/8", "1")
        self.say("when bow 1/10", "1")
        self.say("when saw 7/500", "1")
        self.say("when saw 2/1", "143")
        self.say("when saw 1000000000/1", "never")
        self.say("when bow 1000000000/999999", str(first_hour(read_archive(TEXT), "bow", (LAST, 999999))))

    def test_text(self):
        self.say("text", TEXT.replace("\n", " | "))
        self.desk.say("take 0")
        self.say("text", TEXT.replace("\nat 24 bow move loft", "").replace("\n", " | "))

    def test_plan(self):
        self.say("plan 0 1", "bow loft, saw hall")
        self.say("plan 0 1000000000", "bow loft, saw hall")
        self.desk.say("read loft 1 15 90")
        self.say("plan 0 1", "bow hall, saw hall")

    def test_no_plan(self):
        held = Desk(TEXT.replace("room hall 2", "room hall 0"))
        self.assertEqual(held.say("plan 0 5"), "no: saw : none")
        held = Desk(TEXT.replace("room hall 2 any", "room hall 0 any").replace("room den 0", "room den 1").replace(
            "\nbox", "\nbox sack 1 1\nbox").replace("\nat 24", "\nthing adze iron den none 0\nat 24"))
        self.assertEqual(held.say("plan 0 5"), "no: saw adze : den")
        things = "\n".join(f"thing {name} wood hall none 0" for name in "abcd")
        held = Desk(f"{BARE}\nroom loft 1 any : 0 15 5 : none\n{things}")
        self.assertEqual(held.say("plan 0 5"), "no: a b c d : hall loft")

    def test_better(self):
        self.say("better 0 5 loft hall", "best")
        self.say("better 0 5 hall hall", "bow loft")
        things = "\n".join(f"thing {name} wood hall none {parts}" for name, parts in zip("ab", (0, 9)))
        held = Desk(f"{BARE}\nroom loft 1 any : 0 15 5 : none\n{things}".replace("hall 2", "hall 1"))
        self.assertEqual(held.say("plan 0 50"), "a hall, b loft")
        self.assertEqual(held.say("better 0 50 hall loft"), "best")
        self.assertIn(held.say("better 0 50 loft hall"), ("a hall, b loft", "b loft, a hall"))

    def test_questions_change_nothing(self):
        self.desk.say("hour 7")
        before = [self.desk.say(line) for line in ("text", "shares")]
        for line in ("worst", "bounds bow", "when bow 7/1", "plan 5 50", "better 5 50 hall hall", "plan 5 5", "share x"):
            self.desk.say(line)
        self.assertEqual([self.desk.say(line) for line in ("text", "shares")], before)
        # Only the hour's deed is there to be taken back.
        self.say("undo", "none")
        self.say("undo", "refused")


class NoneToTell(unittest.TestCase):
    """Where none is to be told."""

    def test_without_things(self):
        held = Desk(BARE)
        for line, told in (("shares", "none"), ("worst", "none"), ("plan 0 5", "none"), ("better 0 5", "best"),
                           ("hour 9", "none"), ("undo", "none"), ("wear wood 1 1 5", "none"), ("share bow", "refused"),
                           ("better 0 5 hall", "refused"), ("undo", "none"), ("text", BARE.replace("\n", " | "))):
            self.assertEqual(held.say(line), told)


class Deeds(Says):
    def test_hour(self):
        self.say("hour 0", "none")
        self.say("hour 50", "bow 0, bow 24, saw 0, saw 30, saw 40")
        self.say("hour 51", "bow 24, saw 40")
        self.say("hour 1000000000", "bow 24, saw 40")

    def test_events(self):
        self.desk.say("hour 40")
        self.say("put 0 at 3 bow mend 9", "bow 0, bow 3")
        self.say("put 0 at 0 saw box none", "saw 0")
        self.say("put 4 at 40 bow move hall", "none")
        self.say("text", (TEXT.replace("\nat 24", "\nat 0 saw box none\nat 3 bow mend 9\nat 24")
                          + "\nat 40 bow move hall").replace("\n", " | "))
        self.say("take 3", "saw 0")
        self.say("take 0", "saw 0")
        self.say("take 0", "bow 0")
        self.say("take 1", "none")
        self.say("put 1 at 26 saw lend 5 40 100", "saw 0, saw 26, saw 31")
        self.say("put 2 at 26 bow box chest", "bow 24, bow 26")

    def test_readings(self):
        self.desk.say("hour 40")
        self.say("read hall 1 15 60", "bow 0, saw 0")
        self.say("read hall 1 15 60", "none")
        self.say("read den 1 ? ?", "none")
        self.say("read den 1 3 ?", "none")
        self.say("read den 1 ? 3", "none")
        self.assertIn("room den 0 any : 0 ? 3 : ", self.desk.say("text"))
        self.say("read loft 1 0 0", "bow 24")

    def test_wears(self):
        self.desk.say("hour 40")
        self.say("wear wood 1 2 0", "bow 0, bow 24")
        self.say("wear iron 1 1 1000", "saw 0, saw 30")
        self.say("wear iron 1 1 1000", "none")
        self.say("share saw", "80/1")

    def test_undo(self):
        self.say("undo", "refused")
        self.desk.say("hour 40")
        self.desk.say("wear wood 1 2 0")
        self.say("undo", "bow 0, bow 24")
        self.say("undo", "none")
        self.say("undo", "refused")

    def test_by_the_functions_themselves(self):
        chance = random.Random(100)
        for _ in range(60):
            archive = made(chance, gaps=2, things=4, life=9000, shelves=3)
            held, keeper = Desk(archive_text(archive)), Keeper(archive, 0)
            for _ in range(25):
                line, told = chance.choice(lines(chance, keeper))
                self.assertEqual(held.say(line), answer(told), line)
            self.assertEqual(held.say("text"), archive_text(keeper.its_archive()).replace("\n", " | "))


class Lacks(unittest.TestCase):
    def setUp(self):
        self.desk = Desk(LACKING)

    def say(self, line, told):
        self.assertEqual(self.desk.say(line), told)

    def test_lacks(self):
        self.say("hour 10", "bow 0")
        for line in ("hour 11", "read hall 1 ? 5", "put 0 at 9 bow move den", "when bow 11/20", "plan 0 5",
                     "better 0 5 hall", "better 0 5 den"):
            self.say(line, "lacks hall" if "hall 1" in line else "lacks den")
        self.say("when bow 1/2", "10")
        self.say("bounds bow", "1/2 1/2")
        self.say("share bow", "1/2")
        self.say("undo", "none")

    def test_behind_what_is_refused(self):
        self.say("when axe 11/20", "refused")
        self.say("when bow 22/40", "refused")
        self.say("plan 5 5", "refused")
        self.say("better 0 5 hall hall", "refused")
        self.say("better 5 5 hall", "refused")
        self.say("read den 3 5 5", "refused")


class Refused(Says):
    def refuse(self, *lines_to_say):
        before = [self.desk.say(line) for line in ("text", "shares")]
        for line in lines_to_say:
            self.say(line, "refused")
        self.assertEqual([self.desk.say(line) for line in ("text", "shares")], before)

    def test_names_that_are_not_there(self):
        self.refuse("share axe", "bounds axe", "when axe 1/2", "read attic 1 1 1", "wear oak 1 1 1", "share hall",
                    "share wood", "better 0 5 attic hall", "read wood 1 1 1", "wear hall 1 1 1")

    def test_what_is_no_name(self):
        self.refuse("share Bow", "share none", "share 5", "share bow,", "bounds ?", "when move 1/2", "read any 1 1 1",
                    "wear - 1 1 1", "better 0 5 hall 7", "share averylongname")

    def test_numbers_that_are_not_there(self):
        self.refuse("hour 1000000001", "hour 9999999999", "take 2", "put 3 at 40 bow mend 0", "read hall 3 1 1",
                    "read hall 0 1 1", "read hall 1 41 1", "read hall 1 1 101", "wear wood 2 1 1", "wear wood 1 3 1",
                    "wear wood 0 1 1", "wear wood 1 0 1", "wear wood 1 1 1001", "plan 0 1000000001", "plan 5 5",
                    "plan 6 5", "better 5 5 hall hall")

    def test_numbers_below_nought(self):
        self.refuse("hour -1", "take -1", "put -1 at 40 bow mend 0", "read hall -1 1 1", "read hall 1 -1 1",
                    "read hall 1 1 -1", "wear wood -1 1 1", "wear wood 1 -1 1", "wear wood 1 1 -1", "plan -1 5",
                    "plan -5 -1", "plan 0 -1", "better -1 5 hall hall", "when bow -1/2", "when bow 1/-2")

    def test_shares_that_are_not_there(self):
        self.refuse("when bow 1/0", "when bow 0/0", "when bow 2/4", "when bow 0/5", "when bow 1000000001/1",
                    "when bow 1/1000001")

    def test_layouts(self):
        self.refuse("better 0 5", "better 0 5 hall", "better 0 5 hall hall hall", "better 0 5 loft loft",
                    "better 0 5 hall loft", "better 0 5 hall den", "better 0 5 " + " ".join(["hall"] * 13))

    def test_events(self):
        self.refuse("put 0 at 3 axe mend 0", "put 0 at 3 bow move attic", "put 0 at 3 bow box bag",
                    "put 0 at 3 saw move loft", "put 1 at 3 bow mend 0", "put 2 at 39 saw mend 0", "take 2")

    def test_a_forty_first_event(self):
        for _ in range(38):
            self.say("put 0 at 0 bow mend 0", "none")
        self.refuse("put 0 at 0 bow mend 0", "put 40 at 40 bow mend 0")


class NoLine(Says):
    def refuse(self, *lines_to_say):
        before = self.desk.say("text")
        for line in lines_to_say:
            self.say(line, "no line")
        self.say("text", before)
        # What is no line is no deed.
        self.say("undo", "refused")

    def test_other_words(self):
        self.refuse("", "x", "Shares", "SHARE bow", "sharess", "bow", "at 5 bow mend 0", "kind", "none", "best", "0",
                    "?", "redo", "hours 5", "plans 0 5", "mend 5")

    def test_other_counts_of_words(self):
        self.refuse("shares bow", "share", "share bow saw", "worst bow", "bounds", "bounds bow saw", "when", "when bow",
                    "when 1/2", "when bow 1/2 3", "when bow 1 2", "text 1", "plan", "plan 5", "plan 5 6 7", "better",
                    "better 5", "hour", "hour 5 6", "put", "put 0", "take", "take 0 0", "read", "read hall",
                    "read hall 1", "read hall 1 5", "read hall 1 5 5 5", "wear", "wear wood 1 1", "wear wood 1 1 1 1",
                    "undo 1", "undo undo")

    def test_numbers_told_otherwise(self):
        for number in ("x", "05", "00", "-0", "-05", "+5", "5.0", "5,", "1e3", "12345678901", "-", "--5", "5-", "0x5", "?"):
            self.refuse(f"hour {number}", f"take {number}", f"put {number} at 5 bow mend 0", f"plan {number} 9",
                        f"plan 0 {number}", f"better {number} 9 hall hall", f"better 0 {number} hall hall",
                        f"read hall {number} 1 1", f"wear wood {number} 1 1", f"wear wood 1 {number} 1",
                        f"wear wood 1 1 {number}", f"when bow {number}/2", f"when bow 1/{number}")
            if number != "?":
                self.refuse(f"read hall 1 {number} 1", f"read hall 1 1 {number}")

    def test_shares_of_other_words(self):
        self.refuse("when bow 1", "when bow 1/", "when bow /2", "when bow /", "when bow 1/2/3", "when bow 1//2",
                    "when bow a/b", "when bow 1/b", "when bow half", "when bow 1:2", "when bow ?", "when bow 1 /2")

    def test_events_that_cannot_be_read(self):
        self.refuse("put 0 mend 5", "put 0 at", "put 0 at 5", "put 0 at 5 bow", "put 0 at 5 bow mend", "put 0 at 5 bow x",
                    "put 0 at -5 bow mend 0", "put 0 at 5 bow mend -1", "put 0 at 1000000001 bow mend 0",
                    "put 0 at 5 Bow mend 0", "put 0 at 5 bow lend 0 1 1", "put 0 at 5 bow lend 1 41 1",
                    "put 0 at 5 bow box", "put 0 at 5 bow move none", "put 0 at 5 bow move hall 5",
                    "put 0 thing bow wood hall none 75", "put at 5 bow mend 0", "put 0 at 5 bow mend ?")

    def test_blanks_and_line_feeds(self):
        for line in ("shares", "share bow", "plan 0 5", "hour 5", "put 0 at 5 bow mend 0", "better 0 5 hall hall",
                     "read hall 1 1 1", "undo", "when bow 1/2", "text"):
            self.refuse(f" {line}", f"{line} ", f"\n{line}", f"{line}\n", f"{line} \n", f"{line}\nshares")
            if " " in line:
                self.refuse(line.replace(" ", "  ", 1), line.replace(" ", "\n", 1), line.replace(" ", " \n", 1))
        self.refuse(" ", "  ", "\n", "share bow\n", "share b\now", "better 0 5 hall ha\nll")

    def test_things_that_are_no_texts(self):
        for line in (None, True, False, 0, 5, b"shares", ["shares"], ("share", "bow"), {}, {"shares": 1}, 1.5, object()):
            self.say(line, "no line")

    def test_lines_whose_words_alone_make_them_none(self):
        self.refuse("when axe 1/x", "read attic x 1 1", "wear oak 1 1 x", "put 99 at 5 axe", "put 99 x", "hour 99999999999",
                    "better 5 x attic", "share axe axe", "put -1 at 5 axe mend x", "plan -1 x", "take 99 99")


class Texts(unittest.TestCase):
    def test_texts_that_cannot_be_read(self):
        for text, told in (("", (1, 0)), (None, (1, 0)), (5, (1, 0)), (TEXT + "\n", (11, 0)), (BARE + "\nroom", (3, 2)),
                           (BARE.split("\n")[0], (2, 0)), (BARE.replace("1000", "0"), (1, 3))):
            with self.assertRaises(BadRow) as caught:
                Desk(text)
            self.assertEqual((caught.exception.row, caught.exception.word), told)

    def test_archives_that_cannot_stand(self):
        for text, told in ((TEXT.replace("saw iron hall", "saw iron loft"), ("kind", "saw")),
                           (TEXT.replace("at 30", "at 3"), ("late", "saw")),
                           (TEXT.replace("box chest", "box sack"), ("unknown", "saw")),
                           (BARE + "\nroom hall 1 any : 0 1 1 : none", ("twice", "hall"))):
            with self.assertRaises(BadArchive) as caught:
                Desk(text)
            self.assertEqual((caught.exception.what, caught.exception.name), told)

    def test_reading_ahead_of_looking(self):
        with self.assertRaises(BadRow):
            Desk(BARE + "\nroom hall 1 any : 0 1 1 : none\nthing")

    def test_desks_of_one_text(self):
        one, other = Desk(TEXT), Desk(TEXT)
        one.say("hour 50")
        one.say("take 0")
        self.assertEqual(other.say("text"), TEXT.replace("\n", " | "))
        self.assertEqual(other.say("shares"), "bow 3/40, saw 0/1")
        self.assertEqual(other.say("undo"), "refused")

    def test_answers_are_texts(self):
        held = Desk(TEXT)
        for line in ("shares", "worst", "hour 5", "plan 0 5", "x", "share x", None):
            self.assertIs(type(held.say(line)), str)


class Files(unittest.TestCase):
    def test_all_is_defined_in_its_file(self):
        self.assertEqual(Desk.__module__, desk.__name__)
        self.assertIn("say", Desk.__dict__)


if __name__ == "__main__":
    unittest.main()
