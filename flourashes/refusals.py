"""The refusals of a blender, one error for each code of the document."""


class NoBlender(Exception):
    """There is no blender yet."""


class NotThere(Exception):
    """The stream or the flour doesn't exist."""


class OutsideLimits(Exception):
    """An argument is outside its limits."""


class TooManyStreams(Exception):
    """There is no room for another stream."""


class EmptyFlour(Exception):
    """No stream goes to the flour."""


class AboveAshLimit(Exception):
    """A flour would exceed its ash limit."""
