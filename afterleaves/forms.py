"""Small questions about the form of what is passed."""

LETTERS = "abcdefghijklmnopqrstuvwxyz"
DIGITS = "0123456789"


def is_integer(thing):
    """Whether a thing is an integer; True and False are none here, though Python takes them for integers."""
    return isinstance(thing, int) and not isinstance(thing, bool)


def is_within(thing, least, most):
    """Whether a thing is an integer from the least to the most one."""
    return is_integer(thing) and least <= thing <= most


def is_tuple(thing):
    """Whether a thing is a tuple, or a list in the place of one."""
    return isinstance(thing, (tuple, list))


def is_sized(thing, least, most):
    """Whether a thing is a tuple (or list) of so many things."""
    return is_tuple(thing) and least <= len(thing) <= most


def is_word(thing):
    """Whether a thing has the form of a name or word."""
    if not isinstance(thing, str) or not 1 <= len(thing) <= 8:
        return False
    return all([letter in LETTERS for letter in thing])


def read_integer(word, least, most):
    """The integer from the least to the most one that a string writes, or None."""
    # A number of more digits is too large, and Python does not read numbers of any length.
    if not 1 <= len(word) <= len(str(most)):
        return None
    if not all([digit in DIGITS for digit in word]) or (word[0] == "0" and word != "0"):
        return None
    number = int(word)
    return number if least <= number <= most else None
