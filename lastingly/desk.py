"""A desk, which answers lines."""

from lastingly.archiveread import read_archive
from lastingly.archivetext import archive_text
from lastingly.bounds import share_bounds
from lastingly.chains import better_chain
from lastingly.errors import BadArchive, Lacking, NoPlan, OutOfPlace
from lastingly.keeper import Keeper
from lastingly.line import parts_of
from lastingly.looking import look_through
from lastingly.plan import plan_for
from lastingly.when import first_hour, worst_thing


class Desk:
    """A desk over the archive of a text, at hour 0."""

    def __init__(self, text):
        archive = read_archive(text)
        look_through(archive)
        self.keeper = Keeper(archive, 0)

    def say(self, line):
        """The answer to a line, of anything."""
        parts = parts_of(line)
        if parts is None:
            return "no line"
        try:
            return self._answer(parts)
        except Lacking as refusal:
            return f"lacks {refusal.room}"
        except (BadArchive, OutOfPlace):
            return "refused"

    def _answer(self, parts):
        archive = self.keeper.its_archive()
        hour = self.keeper.its_hour()
        match parts:
            case ["shares"]:
                return _joined([f"{name} {_fraction_text(worn)}" for name, worn in self.keeper.all_shares()])
            case ["share", thing]:
                return _fraction_text(self.keeper.share_of(thing))
            case ["worst"]:
                worst = worst_thing(archive, hour)
                return "none" if worst is None else worst
            case ["bounds", thing]:
                return " ".join([_fraction_text(bound) for bound in share_bounds(archive, thing, hour)])
            case ["when", thing, share]:
                come_to = first_hour(archive, thing, share)
                return "never" if come_to is None else str(come_to)
            case ["text"]:
                return archive_text(archive).replace("\n", " | ")
            case ["plan", first, behind]:
                return _plan_text(archive, first, behind)
            case ["better", first, behind, layout]:
                chain = better_chain(archive, first, behind, layout)
                return "best" if chain is None else _pairs_text(chain)
            case _:
                return _pairs_text(self._do(parts))

    def _do(self, parts):
        """The stretches that a deed reckons anew."""
        match parts:
            case ["hour", hour]:
                return self.keeper.set_hour(hour)
            case ["put", number, event]:
                return self.keeper.put_event(number, event)
            case ["take", number]:
                return self.keeper.take_event(number)
            case ["read", room, row, warmth, wet]:
                return self.keeper.set_reading(room, row, warmth, wet)
            case ["wear", kind, row, column, worn]:
                return self.keeper.set_wear(kind, row, column, worn)
            case _:
                return self.keeper.undo()


def _plan_text(archive, first, behind):
    try:
        rooms, _ = plan_for(archive, first, behind)
    except NoPlan as refusal:
        things = " ".join(refusal.things)
        hinder = " ".join(refusal.rooms) if refusal.rooms else "none"
        return f"no: {things} : {hinder}"
    return _pairs_text([(thing[0], room) for thing, room in zip(archive.things, rooms)])


def _pairs_text(pairs):
    return _joined([f"{name} {told}" for name, told in pairs])


def _joined(parts):
    return ", ".join(parts) if parts else "none"


def _fraction_text(fraction):
    above, below = fraction
    return f"{above}/{below}"
