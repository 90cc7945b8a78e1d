"""A blender: its streams, its flours and the assignment that is current."""

from flourashes.limits import (
    FEED,
    FLOUR_COUNT,
    MOST_STREAMS,
    check_destination,
    check_destinations,
    check_flour_number,
    check_flour_values,
    check_price,
    check_stream_values,
)
from flourashes.mixing import (
    Flour,
    Stream,
    amount_of,
    ash_of,
    is_feasible,
    lowest_terms,
    revenue_of,
    streams_of_flour,
)
from flourashes.refusals import AboveAshLimit, EmptyFlour, NotThere, TooManyStreams


def replaced(entries, place, entry):
    """A copy of a list with another entry at one place."""
    others = list(entries)
    others[place] = entry
    return others


def without(entries, place):
    """A copy of a list without the entry at one place."""
    return entries[:place] + entries[place + 1:]


class Blender:
    """Each method is the call of its name; it answers a list of whole numbers or raises a refusal."""

    def __init__(self, feed_price):
        self.feed_price = feed_price
        self.streams = []
        self.flours = [Flour(0, 0) for number in range(FLOUR_COUNT)]
        self.destinations = []

    def keep(self, streams, flours, destinations):
        """The one way to a changed state, so that the current assignment is always feasible."""
        if not is_feasible(streams, flours, destinations):
            raise AboveAshLimit()
        self.streams = streams
        self.flours = flours
        self.destinations = destinations

    def check_stream_number(self, stream):
        """Refuses the number of a stream that doesn't exist."""
        if stream >= len(self.streams):
            raise NotThere()

    def add_stream(self, amount, ash):
        """Adds a stream that goes to feed."""
        check_stream_values(amount, ash)
        number = len(self.streams)
        if number >= MOST_STREAMS:
            raise TooManyStreams()
        self.keep(self.streams + [Stream(amount, ash)], self.flours, self.destinations + [FEED])
        return [number]

    def remove_stream(self, stream):
        """Takes a stream out; the later ones move up by one number."""
        self.check_stream_number(stream)
        self.keep(without(self.streams, stream), self.flours, without(self.destinations, stream))
        return [len(self.streams)]

    def set_stream(self, stream, amount, ash):
        """Changes a stream where it goes."""
        self.check_stream_number(stream)
        check_stream_values(amount, ash)
        old = self.streams[stream]
        self.keep(replaced(self.streams, stream, Stream(amount, ash)), self.flours, self.destinations)
        return [0, old.amount, old.ash]

    def set_flour(self, flour, ash_limit, price):
        """Changes the limit and the price of a flour."""
        check_flour_number(flour)
        check_flour_values(ash_limit, price)
        old = self.flours[flour]
        self.keep(self.streams, replaced(self.flours, flour, Flour(ash_limit, price)), self.destinations)
        return [0, old.ash_limit, old.price]

    def set_feed_price(self, price):
        """Changes the price of feed."""
        check_price(price)
        old_price = self.feed_price
        self.feed_price = price
        return [old_price]

    def get_stream(self, stream):
        """The amount, the ash content and the destination of a stream."""
        self.check_stream_number(stream)
        found = self.streams[stream]
        return [found.amount, found.ash, self.destinations[stream]]

    def set_assignment(self, destinations):
        """Replaces the current assignment; answers its revenue."""
        check_destinations(destinations, len(self.streams))
        self.keep(self.streams, self.flours, list(destinations))
        return [revenue_of(self.streams, self.flours, self.feed_price, self.destinations)]

    def get_assignment(self):
        """The number of streams, then the destination of each."""
        return [len(self.destinations)] + self.destinations

    def move_stream(self, stream, destination):
        """Sends one stream elsewhere."""
        self.check_stream_number(stream)
        check_destination(destination)
        old_destination = self.destinations[stream]
        self.keep(self.streams, self.flours, replaced(self.destinations, stream, destination))
        return [old_destination]

    def flour_quality(self, flour):
        """The amount of a flour and its mean ash content."""
        check_flour_number(flour)
        blended = streams_of_flour(self.streams, self.destinations, flour)
        if not blended:
            raise EmptyFlour()
        amount = amount_of(blended)
        return [0, amount] + lowest_terms(ash_of(blended), amount)
