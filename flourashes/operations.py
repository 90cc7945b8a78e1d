"""The calls by their numbers, each answered by a list of whole numbers."""

from flourashes.blender import Blender
from flourashes.limits import check_price
from flourashes.refusals import AboveAshLimit, EmptyFlour, NoBlender, NotThere, OutsideLimits, TooManyStreams


class Mill:
    """What the calls of one request speak to; it has no blender at first."""

    def __init__(self):
        self.blender = None


def present_blender(mill):
    """The mill's blender, which every call but create needs."""
    if mill.blender is None:
        raise NoBlender()
    return mill.blender


def create(mill, row):
    """Call 0: a new blender in the place of the one that is there."""
    check_price(row[0])
    mill.blender = Blender(row[0])
    return [0]


def add_stream(mill, row):
    """Call 1."""
    return present_blender(mill).add_stream(row[0], row[1])


def remove_stream(mill, row):
    """Call 2."""
    return present_blender(mill).remove_stream(row[0])


def set_stream(mill, row):
    """Call 3."""
    return present_blender(mill).set_stream(row[0], row[1], row[2])


def set_flour(mill, row):
    """Call 4."""
    return present_blender(mill).set_flour(row[0], row[1], row[2])


def set_feed_price(mill, row):
    """Call 5."""
    return present_blender(mill).set_feed_price(row[0])


def get_stream(mill, row):
    """Call 6."""
    return present_blender(mill).get_stream(row[0])


def set_assignment(mill, row):
    """Call 7."""
    return present_blender(mill).set_assignment(row)


def get_assignment(mill, row):
    """Call 8, whose row is empty."""
    return present_blender(mill).get_assignment()


def move_stream(mill, row):
    """Call 9."""
    return present_blender(mill).move_stream(row[0], row[1])


def flour_quality(mill, row):
    """Call 10."""
    return present_blender(mill).flour_quality(row[0])


OPERATIONS = (
    create,
    add_stream,
    remove_stream,
    set_stream,
    set_flour,
    set_feed_price,
    get_stream,
    set_assignment,
    get_assignment,
    move_stream,
    flour_quality,
)


def perform(mill, number, row):
    """Answers the call of this number; a refusal is answered by its code alone."""
    try:
        return OPERATIONS[number](mill, row)
    except NoBlender:
        return [-11]
    except NotThere:
        return [-2]
    except OutsideLimits:
        return [-22]
    except TooManyStreams:
        return [-28]
    except EmptyFlour:
        return [-33]
    except AboveAshLimit:
        return [-30]
