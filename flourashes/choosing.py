"""The best among all feasible assignments, and the most first flour if streams may be split."""

from flourashes.mixing import lowest_terms, margin_of, prices_of, revenue_of


def feasible_assignments(streams, flours):
    """Every feasible assignment, from the lexicographically smallest on."""
    # Each is built stream by stream together with its margins, as weighing each one anew takes far longer.
    begun = [([], [0] * (len(flours) + 1))]
    for stream in streams:
        begun = with_next_stream(begun, stream, flours)
    return [destinations for destinations, margins in begun if min(margins) >= 0]


def with_next_stream(begun, stream, flours):
    """Each begun assignment continued by each destination of one more stream, with the margins they leave."""
    # Feed, the last destination, has no limit, so its margin stays 0.
    gains = [margin_of([stream], flour.ash_limit) for flour in flours] + [0]
    continued = []
    for destinations, margins in begun:
        for destination, gain in enumerate(gains):
            # A margin below 0 is let through here: a later stream may make up for it.
            left = list(margins)
            left[destination] += gain
            continued.append((destinations + [destination], left))
    return continued


def best_assignment_of(streams, flours, prices):
    """The feasible assignment that earns the most at these prices of the destinations."""
    # Of several, max takes the first one, which is the lexicographically smallest.
    return max(
        feasible_assignments(streams, flours),
        key=lambda destinations: revenue_of(streams, prices, destinations),
    )


def best_revenue_of(streams, flours, feed_price):
    """What the best assignment of these streams to these flours earns."""
    prices = prices_of(flours, feed_price)
    return revenue_of(streams, prices, best_assignment_of(streams, flours, prices))


def most_flour_with_splitting(streams, ash_limit):
    """The largest amount within a limit that any parts of the streams make, as a fraction's two numbers."""
    total = 0
    reserve = 0
    # Sorting keeps streams of equal ash in the order of their numbers.
    for stream in sorted(streams, key=lambda each: each.ash):
        left = reserve + margin_of([stream], ash_limit)
        if left < 0:
            # The part that is taken uses up the reserve, so nothing is taken of the streams behind.
            excess = stream.ash - ash_limit
            return lowest_terms(total * excess + reserve, excess)
        total += stream.amount
        reserve = left
    return lowest_terms(total, 1)
