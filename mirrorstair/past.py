"""What may be taken back."""

from mirrorstair.errors import NoBack
from mirrorstair.values import is_number


def want_past(past, many):
    """Refuse to take back as many of the past as told where that is no number of them."""
    if not is_number(many) or not 0 <= many <= len(past):
        raise NoBack("there is not as much to be taken back")
