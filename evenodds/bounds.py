"""The check of a size that several modules share."""

from evenodds.errors import InvalidSize


def check_size(size, least, most):
    """Raise InvalidSize if the integer is not from `least` to `most`."""
    if not least <= size <= most:
        raise InvalidSize(size)
