"""The words of texts: whole numbers, written in one way each, and names."""

MOST_DIGITS = 30
MOST_LETTERS = 8

# Python refuses to write integers of more than 4300 digits at once.
_BLOCK_DIGITS = 18
_BLOCK = 1000000000000000000


def is_number(word, most):
    """True for one to most digits without a leading zero; 0 alone is such a number."""
    # Alone, isdigit would also take digits of other scripts.
    if not (word.isascii() and word.isdigit()):
        return False
    return len(word) <= most and (word == "0" or not word.startswith("0"))


def is_integer(word):
    """True for an integer as the texts of polynomials and matrices have it."""
    return word != "-0" and is_number(word.removeprefix("-"), MOST_DIGITS)


def is_name(word):
    """True for one to eight letters, small or capital."""
    # Alone, isalpha would also take letters of other scripts.
    return word.isascii() and word.isalpha() and len(word) <= MOST_LETTERS


def written(n):
    """The decimal digits of an integer of any size."""
    sign = "-" if n < 0 else ""
    text, rest = "", abs(n)
    while rest >= _BLOCK:
        rest, low = divmod(rest, _BLOCK)
        text = f"{str(low).zfill(_BLOCK_DIGITS)}{text}"
    return f"{sign}{rest}{text}"
