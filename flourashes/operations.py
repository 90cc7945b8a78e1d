"""The calls by their numbers, each answered by a list of whole numbers."""

from flourashes.blender import Blender
from flourashes.limits import check_price
from flourashes.refusals import AboveAshLimit, EmptyFlour, NoBlender, NotThere, OutsideLimits, TooManyStreams


class Mill:
    """What the calls of one request speak to; it has no blender at first."""

    def __init__(self):
        self.blender = None


def present_blender(mill):
    """The mill's blender, which every call but create needs."""
    if mill.blender is None:
        raise NoBlender()
    return mill.blender


def create(mill, row):
    """Call 0: a new blender in the place of the one that is there."""
    check_price(row[0])
    mill.blender = Blender(row[0])
    return [0]


def add_stream(mill, row):
    """Call 1."""
    return present_blender(mill).add_stream(row[0], row[1])


def remove_stream(mill, row):
    """Call 2."""
    return present_blender(mill).remove_stream(row[0])


def set_stream(mill, row):
    """Call 3."""
    return present_blender(mill).set_stream(row[0], row[1], row[2])


def set_flour(mill, row):
    """Call 4."""
    return present_blender(mill).set_flour(row[0], row[1], row[2])


def set_feed_price(mill, row):
    """Call 5."""
    return present_blender(mill).set_feed_price(row[0])


def get_stream(mill, row):
    """Call 6."""
    return present_blender(mill).get_stream(row[0])


def set_assignment(mill, row):
    """Call 7."""
    return present_blender(mill).set_assignment(row)


def get_assignment(mill, row):
    """Call 8, whose row is empty."""
    return present_blender(mill).get_assignment()


def move_stream(mill, row):
    """Call 9."""
    return present_blender(mill).move_stream(row[0], row[1])


def flour_quality(mill, row):
    """Call 10."""
    return present_blender(mill).flour_quality(row[0])


def ash_margin(mill, row):
    """Call 11."""
    return present_blender(mill).ash_margin(row[0])


def revenue(mill, row):
    """Call 12, whose row is empty."""
    return present_blender(mill).revenue()


def best_assignment(mill, row):
    """Call 13, whose row is empty."""
    return present_blender(mill).best_assignment()


def apply_best_assignment(mill, row):
    """Call 14, whose row is empty."""
    return present_blender(mill).apply_best_assignment()


def feasible_count(mill, row):
    """Call 15, whose row is empty."""
    return present_blender(mill).feasible_count()


def evaluate_assignment(mill, row):
    """Call 16."""
    return present_blender(mill).evaluate_assignment(row)


def max_first_flour(mill, row):
    """Call 17, whose row is empty."""
    return present_blender(mill).max_first_flour()


def max_first_flour_split(mill, row):
    """Call 18, whose row is empty."""
    return present_blender(mill).max_first_flour_split()


def best_revenue_for_limit(mill, row):
    """Call 19."""
    return present_blender(mill).best_revenue_for_limit(row[0], row[1])


def value_of_stream(mill, row):
    """Call 20."""
    return present_blender(mill).value_of_stream(row[0])


def best_revenue_for_price(mill, row):
    """Call 21."""
    return present_blender(mill).best_revenue_for_price(row[0], row[1])


OPERATIONS = (
    create,
    add_stream,
    remove_stream,
    set_stream,
    set_flour,
    set_feed_price,
    get_stream,
    set_assignment,
    get_assignment,
    move_stream,
    flour_quality,
    ash_margin,
    revenue,
    best_assignment,
    apply_best_assignment,
    feasible_count,
    evaluate_assignment,
    max_first_flour,
    max_first_flour_split,
    best_revenue_for_limit,
    value_of_stream,
    best_revenue_for_price,
)


def perform(mill, number, row):
    """Answers the call of this number; a refusal is answered by its code alone."""
    try:
        return OPERATIONS[number](mill, row)
    except NoBlender:
        return [-11]
    except NotThere:
        return [-2]
    except OutsideLimits:
        return [-22]
    except TooManyStreams:
        return [-28]
    except EmptyFlour:
        return [-33]
    except AboveAshLimit:
        return [-30]
