"""The texts of standings."""

from keyriders.bounds import MAX_RIDER
from keyriders.errors import BadText
from keyriders.standings import standing_error
from keyriders.values import read_number


def standing_text(standing):
    """Return the text of a standing."""
    return " ".join([str(item) for item in standing])


def read_standing(n, value):
    """Return the standing of n of which value is the text."""
    if not isinstance(value, str):
        raise BadText()
    standing = tuple([read_number(word, MAX_RIDER) for word in value.split(" ")])
    if standing_error(n, standing) is not None:
        raise BadText()
    return standing
