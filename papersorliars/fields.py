"""The fields, and numbers in them."""

from papersorliars.errors import BadField
from papersorliars.limits import check_summed

FIELDS = (0, 2, 3, 5, 7)


def check_field(field):
    """Raises BadField if the integer is not one of the fields."""
    if field not in FIELDS:
        raise BadField(field)


def check_size_and_field(names, field):
    """Raises TooLarge for too many names for sums and their kin, then BadField."""
    check_summed(names)
    check_field(field)


def in_field(field, number):
    """The number as the field writes it."""
    return number if field == 0 else number % field


def inverse(prime, number):
    """The number whose product with the number is 1 in the field of the prime."""
    return [other for other in range(1, prime) if other * number % prime == 1][0]
