"""What several modules ask of plain values."""

SMALL_LETTERS = "abcdefghijklmnopqrstuvwxyz"
WORD_SIGNS = "abcdefghijklmnopqrstuvwxyz0123456789"
MOST_SIGNS = 12


def is_whole(value):
    """Whether a value is an integer; True and False are none."""
    return isinstance(value, int) and not isinstance(value, bool)


def is_index(value, many):
    """Whether a value is an integer from 0 on that is less than a number."""
    return is_whole(value) and 0 <= value < many


def is_list_of(value, many):
    """Whether a value is a list or tuple of so many elements."""
    return isinstance(value, (list, tuple)) and len(value) == many


def is_short_word(value):
    """Whether a value is a string of 1 to 12 small letters and digits that begins with a letter."""
    if not isinstance(value, str) or not 1 <= len(value) <= MOST_SIGNS:
        return False
    return value[0] in SMALL_LETTERS and all([sign in WORD_SIGNS for sign in value])


def copied(value):
    """A value whose lists and dicts are new, so that nobody else can change them."""
    if isinstance(value, list):
        return [copied(part) for part in value]
    if isinstance(value, tuple):
        return tuple([copied(part) for part in value])
    if isinstance(value, dict):
        return {key: copied(value[key]) for key in value}
    return value
