"""The ranges that a call's numbers must keep to."""

from flourashes.refusals import NotThere, OutsideLimits

MOST_STREAMS = 6
MOST_AMOUNT = 99
MOST_ASH = 300
MOST_PRICE = 99
FLOUR_COUNT = 3
FEED = 3


def check_stream_values(amount, ash):
    """Refuses an amount or an ash content that no stream may have."""
    if amount < 1 or amount > MOST_AMOUNT or ash > MOST_ASH:
        raise OutsideLimits()


def check_flour_values(ash_limit, price):
    """Refuses an ash limit or a price that no flour may have."""
    check_ash_limit(ash_limit)
    check_price(price)


def check_ash_limit(ash_limit):
    """Refuses an ash limit that no flour may have."""
    if ash_limit > MOST_ASH:
        raise OutsideLimits()


def check_price(price):
    """Refuses a price that neither a flour nor feed may have."""
    if price > MOST_PRICE:
        raise OutsideLimits()


def check_flour_number(flour):
    """Refuses the number of a flour that doesn't exist."""
    if flour >= FLOUR_COUNT:
        raise NotThere()


def check_destination(destination):
    """Refuses a destination that is neither a flour nor feed."""
    if destination > FEED:
        raise OutsideLimits()


def check_destinations(destinations, stream_count):
    """Refuses a list that isn't one destination for each stream."""
    if len(destinations) != stream_count:
        raise OutsideLimits()
    for destination in destinations:
        check_destination(destination)
