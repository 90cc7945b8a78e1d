"""The package's interface: a list of calls in, a list of their answers out."""

from flourashes.operations import Mill, perform

# The calls that tell the length of their row themselves.
LIST_CALLS = (7, 16)
# How many whole numbers each call has behind its own number, by that number; a list call's 0 is never read.
ROW_LENGTHS = (1, 2, 1, 3, 3, 1, 1, 0, 0, 2, 1, 1, 0, 0, 0, 0, 0, 0, 0, 2, 1, 2)


def answers(calls):
    """For each call, in order, how many numbers are answered, then these."""
    mill = Mill()
    answered = []
    at = 0
    while at < len(calls):
        start = row_start(calls, at)
        end = start + row_length(calls, at)
        answer = perform(mill, calls[at], calls[start:end])
        answered.append(len(answer))
        answered.extend(answer)
        at = end
    return answered


def row_start(calls, at):
    """The place of the first number of the call that stands at a place."""
    if calls[at] in LIST_CALLS:
        return at + 2
    return at + 1


def row_length(calls, at):
    """How many numbers the call that stands at a place has, without a length ahead."""
    if calls[at] in LIST_CALLS:
        return calls[at + 1]
    return ROW_LENGTHS[calls[at]]
