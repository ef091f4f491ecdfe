"""What counts as an integer, as a value, as a row, as a column and as a number in a string."""

LOWEST = -9999
HIGHEST = 9999
MOST_LETTERS = 8
MOST_DIGITS = 9
LETTERS = "abcdefghijklmnopqrstuvwxyz"
DIGITS = "0123456789"


def is_number(value):
    """Tell whether any value is an integer."""
    return isinstance(value, int) and not isinstance(value, bool)


def is_between(value, low, high):
    """Tell whether any value is an integer from low to high."""
    return is_number(value) and low <= value <= high


def is_value(value):
    """Tell whether any value is one that a row can have in a column."""
    return value is None or is_between(value, LOWEST, HIGHEST)


def is_row(value, many):
    """Tell whether any value is a row with so many values."""
    return isinstance(value, tuple) and len(value) == many and all([is_value(entry) for entry in value])


def is_column(value):
    """Tell whether any value is a column."""
    if not isinstance(value, str) or not 1 <= len(value) <= MOST_LETTERS:
        return False
    return value not in ("and", "or") and consists_of(value, LETTERS)


def number_of(word):
    """Return the integer that a word of a string stands for, or None if its form is not exact."""
    digits = word.removeprefix("-")
    # The length comes first: Python itself refuses to convert thousands of digits.
    if not 1 <= len(digits) <= MOST_DIGITS or not consists_of(digits, DIGITS):
        return None
    number = int(word)
    return number if str(number) == word else None


def consists_of(word, characters):
    """Tell whether all characters of a word are among these."""
    return all([character in characters for character in word])
