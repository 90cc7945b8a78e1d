"""What streams, flours and an assignment come to, worked out from values alone."""


class Stream:
    """A stream's amount and its ash content per unit of amount; replaced, never changed."""

    def __init__(self, amount, ash):
        self.amount = amount
        self.ash = ash


class Flour:
    """A flour's greatest mean ash content and its price; replaced, never changed."""

    def __init__(self, ash_limit, price):
        self.ash_limit = ash_limit
        self.price = price


def streams_of_flour(streams, destinations, flour):
    """The streams that an assignment sends to a flour."""
    return [stream for stream, destination in zip(streams, destinations) if destination == flour]


def amount_of(streams):
    """The amount of these streams together."""
    return sum([stream.amount for stream in streams])


def ash_of(streams):
    """The ash of these streams together."""
    return sum([stream.amount * stream.ash for stream in streams])


def margin_of(streams, ash_limit):
    """How much more ash these streams together might have; below 0 they exceed the limit."""
    # Multiplied out, as no streams at all have no mean to compare.
    return ash_limit * amount_of(streams) - ash_of(streams)


def is_feasible(streams, flours, destinations):
    """Whether an assignment keeps every flour within its ash limit."""
    for number, flour in enumerate(flours):
        if margin_of(streams_of_flour(streams, destinations, number), flour.ash_limit) < 0:
            return False
    return True


def prices_of(flours, feed_price):
    """What each destination earns per unit of amount."""
    # Feed is the destination behind the last flour, so its price stands there.
    return [flour.price for flour in flours] + [feed_price]


def revenue_of(streams, prices, destinations):
    """What an assignment earns at these prices of the destinations."""
    return sum([stream.amount * prices[destination] for stream, destination in zip(streams, destinations)])


def lowest_terms(numerator, denominator):
    """A fraction as its two numbers in lowest terms; zero is 0 and 1."""
    divisor = greatest_divisor(numerator, denominator)
    return [numerator // divisor, denominator // divisor]


def greatest_divisor(first, second):
    """The greatest whole number that divides both, of which the second isn't 0."""
    while first > 0:
        rest = second % first
        second = first
        first = rest
    return second
