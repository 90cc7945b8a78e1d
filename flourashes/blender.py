"""A blender: its streams, its flours and the assignment that is current."""

from flourashes.choosing import (
    best_assignment_of,
    best_revenue_of,
    feasible_assignments,
    most_flour_with_splitting,
)
from flourashes.limits import (
    FEED,
    FLOUR_COUNT,
    MOST_STREAMS,
    check_ash_limit,
    check_destination,
    check_destinations,
    check_flour_number,
    check_flour_values,
    check_price,
    check_stream_values,
)
from flourashes.mixing import (
    Flour,
    Stream,
    amount_of,
    ash_of,
    is_feasible,
    lowest_terms,
    margin_of,
    prices_of,
    revenue_of,
    streams_of_flour,
)
from flourashes.refusals import AboveAshLimit, EmptyFlour, NotThere, TooManyStreams


def replaced(entries, place, entry):
    """A copy of a list with another entry at one place."""
    others = list(entries)
    others[place] = entry
    return others


def without(entries, place):
    """A copy of a list without the entry at one place."""
    return entries[:place] + entries[place + 1:]


def check_feasible(streams, flours, destinations):
    """Refuses an assignment by which a flour would exceed its ash limit."""
    if not is_feasible(streams, flours, destinations):
        raise AboveAshLimit()


class Blender:
    """A method with a call's name is that call; it answers a list of whole numbers or raises a refusal."""

    def __init__(self, feed_price):
        self.feed_price = feed_price
        self.streams = []
        self.flours = [Flour(0, 0) for number in range(FLOUR_COUNT)]
        self.destinations = []

    def keep(self, streams, flours, destinations):
        """The one way to a changed state, so that the current assignment is always feasible."""
        check_feasible(streams, flours, destinations)
        self.streams = streams
        self.flours = flours
        self.destinations = destinations

    def check_stream_number(self, stream):
        """Refuses the number of a stream that doesn't exist."""
        if stream >= len(self.streams):
            raise NotThere()

    def streams_of(self, flour):
        """The streams that the current assignment sends to a flour, which must exist."""
        check_flour_number(flour)
        return streams_of_flour(self.streams, self.destinations, flour)

    def earned_by(self, destinations):
        """The revenue of an assignment of the streams."""
        return revenue_of(self.streams, prices_of(self.flours, self.feed_price), destinations)

    def best_destinations(self):
        """The best assignment."""
        return best_assignment_of(self.streams, self.flours, prices_of(self.flours, self.feed_price))

    def best_revenue_with(self, flour, ash_limit, price):
        """The best revenue if a flour had this limit and this price."""
        flours = replaced(self.flours, flour, Flour(ash_limit, price))
        return best_revenue_of(self.streams, flours, self.feed_price)

    def add_stream(self, amount, ash):
        """Adds a stream that goes to feed."""
        check_stream_values(amount, ash)
        number = len(self.streams)
        if number >= MOST_STREAMS:
            raise TooManyStreams()
        self.keep(self.streams + [Stream(amount, ash)], self.flours, self.destinations + [FEED])
        return [number]

    def remove_stream(self, stream):
        """Takes a stream out; the later ones move up by one number."""
        self.check_stream_number(stream)
        self.keep(without(self.streams, stream), self.flours, without(self.destinations, stream))
        return [len(self.streams)]

    def set_stream(self, stream, amount, ash):
        """Changes a stream where it goes."""
        self.check_stream_number(stream)
        check_stream_values(amount, ash)
        old = self.streams[stream]
        self.keep(replaced(self.streams, stream, Stream(amount, ash)), self.flours, self.destinations)
        return [0, old.amount, old.ash]

    def set_flour(self, flour, ash_limit, price):
        """Changes the limit and the price of a flour."""
        check_flour_number(flour)
        check_flour_values(ash_limit, price)
        old = self.flours[flour]
        self.keep(self.streams, replaced(self.flours, flour, Flour(ash_limit, price)), self.destinations)
        return [0, old.ash_limit, old.price]

    def set_feed_price(self, price):
        """Changes the price of feed."""
        check_price(price)
        old_price = self.feed_price
        self.feed_price = price
        return [old_price]

    def get_stream(self, stream):
        """The amount, the ash content and the destination of a stream."""
        self.check_stream_number(stream)
        found = self.streams[stream]
        return [found.amount, found.ash, self.destinations[stream]]

    def set_assignment(self, destinations):
        """Replaces the current assignment; answers its revenue."""
        answer = self.evaluate_assignment(destinations)
        self.keep(self.streams, self.flours, list(destinations))
        return answer

    def get_assignment(self):
        """The number of streams, then the destination of each."""
        return [len(self.destinations)] + self.destinations

    def move_stream(self, stream, destination):
        """Sends one stream elsewhere."""
        self.check_stream_number(stream)
        check_destination(destination)
        old_destination = self.destinations[stream]
        self.keep(self.streams, self.flours, replaced(self.destinations, stream, destination))
        return [old_destination]

    def flour_quality(self, flour):
        """The amount of a flour and its mean ash content."""
        blended = self.streams_of(flour)
        if not blended:
            raise EmptyFlour()
        amount = amount_of(blended)
        return [0, amount] + lowest_terms(ash_of(blended), amount)

    def ash_margin(self, flour):
        """How far a flour is within its ash limit."""
        return [margin_of(self.streams_of(flour), self.flours[flour].ash_limit)]

    def revenue(self):
        """The revenue of the current assignment."""
        return [self.earned_by(self.destinations)]

    def best_assignment(self):
        """The best revenue, then the best assignment."""
        best = self.best_destinations()
        return [self.earned_by(best)] + best

    def apply_best_assignment(self):
        """Makes the best assignment the current one; answers its revenue."""
        return self.set_assignment(self.best_destinations())

    def feasible_count(self):
        """The number of feasible assignments."""
        return [len(feasible_assignments(self.streams, self.flours))]

    def evaluate_assignment(self, destinations):
        """The revenue of an assignment that needn't be the current one."""
        check_destinations(destinations, len(self.streams))
        check_feasible(self.streams, self.flours, destinations)
        return [self.earned_by(destinations)]

    def max_first_flour(self):
        """The largest amount of flour 0 from whole streams, then the assignment that makes it."""
        # Where flour 0 alone earns anything, and 1 per unit, the revenue is its amount.
        prices = [1] + [0] * FLOUR_COUNT
        most = best_assignment_of(self.streams, self.flours, prices)
        return [revenue_of(self.streams, prices, most)] + most

    def max_first_flour_split(self):
        """The largest amount of flour 0 if streams may be split, as a fraction."""
        return [0] + most_flour_with_splitting(self.streams, self.flours[0].ash_limit)

    def best_revenue_for_limit(self, flour, ash_limit):
        """The best revenue if a flour had this limit."""
        check_flour_number(flour)
        check_ash_limit(ash_limit)
        return [self.best_revenue_with(flour, ash_limit, self.flours[flour].price)]

    def value_of_stream(self, stream):
        """How much of the best revenue is owed to a stream."""
        self.check_stream_number(stream)
        best = best_revenue_of(self.streams, self.flours, self.feed_price)
        return [0, best - best_revenue_of(without(self.streams, stream), self.flours, self.feed_price)]

    def best_revenue_for_price(self, flour, price):
        """The best revenue if a flour had this price."""
        check_flour_number(flour)
        check_price(price)
        return [self.best_revenue_with(flour, self.flours[flour].ash_limit, price)]
