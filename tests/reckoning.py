"""What the document's words come to, reckoned as plainly as can be, to compare answers with."""

import itertools
from fractions import Fraction


class Numbers:
    """The same row of mixed numbers each time, so that a failure can be seen again."""

    def __init__(self, seed):
        self.state = seed

    def below(self, bound):
        self.state = (self.state * 1103515245 + 12345) % 2147483648
        return (self.state >> 8) % bound

    def one_of(self, *choices):
        return choices[self.below(len(choices))]


class Blend:
    """Streams as (amount, ash), three flours as (ash_limit, price), and the price of feed."""

    def __init__(self, streams, flours, feed_price):
        self.streams = list(streams)
        self.flours = list(flours)
        self.feed_price = feed_price

    def calls(self):
        """The calls that make such a blender, in which all streams go to feed."""
        made = [("create", self.feed_price)]
        made += [("add_stream", *stream) for stream in self.streams]
        return made + [("set_flour", number, *flour) for number, flour in enumerate(self.flours)]

    def going_to(self, destinations, flour):
        return [stream for stream, destination in zip(self.streams, destinations) if destination == flour]

    def amount(self, destinations, flour):
        return sum(amount for amount, _ in self.going_to(destinations, flour))

    def ash(self, destinations, flour):
        return sum(amount * ash for amount, ash in self.going_to(destinations, flour))

    def margin(self, destinations, flour):
        return self.flours[flour][0] * self.amount(destinations, flour) - self.ash(destinations, flour)

    def is_feasible(self, destinations):
        for flour, (limit, _) in enumerate(self.flours):
            amount = self.amount(destinations, flour)
            if amount and Fraction(self.ash(destinations, flour), amount) > limit:
                return False
        return True

    def revenue(self, destinations):
        sold = sum(price * self.amount(destinations, flour) for flour, (_, price) in enumerate(self.flours))
        return sold + self.feed_price * self.amount(destinations, 3)

    def feasible(self):
        """All feasible assignments, as lists in lexicographic order."""
        every = itertools.product(range(4), repeat=len(self.streams))
        return [list(destinations) for destinations in every if self.is_feasible(destinations)]

    def best(self):
        """What best_assignment answers."""
        revenue, destinations = min((-self.revenue(each), each) for each in self.feasible())
        return [-revenue] + destinations

    def first_flour(self):
        """What max_first_flour answers."""
        amount, destinations = min((-self.amount(each, 0), each) for each in self.feasible())
        return [-amount] + destinations

    def split(self):
        """What max_first_flour_split answers, step by step as the document tells it."""
        limit = self.flours[0][0]
        total = Fraction(0)
        reserve = Fraction(0)
        for ash, _, amount in sorted((ash, number, amount) for number, (amount, ash) in enumerate(self.streams)):
            if ash <= limit:
                total += amount
                reserve += amount * (limit - ash)
            else:
                taken = min(Fraction(amount), reserve / (ash - limit))
                total += taken
                reserve -= taken * (ash - limit)
        return [0, total.numerator, total.denominator]

    def most_of_parts(self):
        """The most flour 0 from any parts: whole streams and, of one stream at most, the part that just fits."""
        limit = self.flours[0][0]
        most = Fraction(0)
        for taken in itertools.product((False, True), repeat=len(self.streams)):
            whole = [stream for stream, is_whole in zip(self.streams, taken) if is_whole]
            total = sum(amount for amount, _ in whole)
            reserve = sum(amount * (limit - ash) for amount, ash in whole)
            if reserve < 0:
                continue
            most = max(most, Fraction(total))
            for (amount, ash), is_whole in zip(self.streams, taken):
                if not is_whole and ash > limit:
                    most = max(most, total + min(Fraction(amount), Fraction(reserve, ash - limit)))
        return most

    def without(self, number):
        return Blend(self.streams[:number] + self.streams[number + 1:], self.flours, self.feed_price)

    def with_stream(self, amount, ash):
        return Blend(self.streams + [(amount, ash)], self.flours, self.feed_price)

    def with_flour(self, number, ash_limit, price):
        others = list(self.flours)
        others[number] = (ash_limit, price)
        return Blend(self.streams, others, self.feed_price)

    def with_feed_price(self, price):
        return Blend(self.streams, self.flours, price)


def mixed_blend(numbers, most_streams):
    """Some blender; its values lie close together, so that ties and full limits are common."""
    streams = [
        (numbers.one_of(1, 2, 3, 10, 1 + numbers.below(99)), numbers.one_of(0, 40, 60, 80, numbers.below(301)))
        for _ in range(numbers.below(most_streams + 1))
    ]
    flours = [
        (numbers.one_of(0, 50, 60, 70, numbers.below(301)), numbers.one_of(0, 1, 2, 9, numbers.below(100)))
        for _ in range(3)
    ]
    return Blend(streams, flours, numbers.one_of(0, 1, 2, 9, numbers.below(100)))


def small_blends(count, most_streams=4):
    """So many different blenders, the same ones each time."""
    return [mixed_blend(Numbers(seed * 7919 + 1), most_streams) for seed in range(count)]


# Worth a name, as many tests start there.
NO_STREAM = Blend([], [(60, 9), (80, 4), (300, 1)], 2)
# Just at the limit of flour 0 together; the second one can go there only because of the first.
TWO = Blend([(10, 40), (10, 80)], [(60, 9), (80, 4), (300, 1)], 2)
SIX = Blend(
    [(10, 40), (20, 80), (7, 61), (33, 120), (5, 0), (99, 300)],
    [(60, 9), (90, 7), (150, 3)],
    2,
)
# Every assignment of these is feasible.
FREE = Blend([(99, 300)] * 6, [(300, 0), (300, 99), (300, 98)], 97)
