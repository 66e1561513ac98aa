"""What a kind wears by warmth and wet, in parts an hour."""

from lastingly.errors import OutOfPlace
from lastingly.fraction import in_lowest_terms, is_less
from lastingly.limits import MOST_WARMTH, MOST_WET
from lastingly.named import row_named
from lastingly.words import is_among


def wear_at(archive, kind, warmth, wet):
    """What a kind wears at a warmth and a wet."""
    row = row_named(archive.kinds, kind)
    if not is_among(warmth, 0, MOST_WARMTH) or not is_among(wet, 0, MOST_WET):
        raise OutOfPlace("a warmth goes from 0 to 40, a wet from 0 to 100")
    return _wear(row, warmth, wet)


def extreme_wear(archive, kind, warmths, wets):
    """The least and the greatest wear of a kind over two ranges, both ends of each in."""
    row = row_named(archive.kinds, kind)
    if not _is_range(warmths, MOST_WARMTH) or not _is_range(wets, MOST_WET):
        raise OutOfPlace("a range is (lowest, highest), within 0 to 40 or 0 to 100")
    # Between neighbouring points the wear changes evenly along each side, so that
    # it is least and greatest at points or at the ends of the ranges.
    wears = [_wear(row, warmth, wet) for warmth in _turns(row[2], warmths) for wet in _turns(row[3], wets)]
    least = greatest = wears[0]
    for wear in wears:
        if is_less(wear, least):
            least = wear
        if is_less(greatest, wear):
            greatest = wear
    return least, greatest


def _wear(kind, warmth, wet):
    _, _, warmths, wets, lines = kind
    along_wet = [_between(wets, parts, wet) for parts in lines]
    # What the lines come to has the same number below in each of them.
    above, below = _between(warmths, [line[0] for line in along_wet], warmth)
    return in_lowest_terms(above, below * along_wet[0][1])


def _between(points, worths, at):
    """What the worths at rising points come to at a number: above and below, not in lowest terms."""
    if at <= points[0]:
        return worths[0], 1
    for place in range(1, len(points)):
        if at <= points[place]:
            start = points[place - 1]
            width = points[place] - start
            return worths[place - 1] * width + (worths[place] - worths[place - 1]) * (at - start), width
    return worths[-1], 1


def _turns(points, ends):
    """The ends of a range, and the points within it."""
    lowest, highest = ends
    return [lowest] + [point for point in points if lowest < point < highest] + [highest]


def _is_range(thing, most):
    """Whether a thing, of any kind, is a range (lowest, highest) of numbers up to the most."""
    if not isinstance(thing, tuple) or len(thing) != 2:
        return False
    lowest, highest = thing
    return is_among(lowest, 0, most) and is_among(highest, lowest, most)
