"""Numbers as texts: as `str` writes them."""

_DIGITS = "0123456789"
_MANY = 60
_CHUNK = 10 ** 60


def is_digits(word):
    """Tells whether a text has digits only, which `int` reads in one way."""
    return len(word) > 0 and all([letter in _DIGITS for letter in word])


def decimal(number):
    """The text of an integer; Python refuses to write those of thousands of digits at once."""
    rest = abs(number)
    pieces = []
    while rest >= _CHUNK:
        rest, piece = divmod(rest, _CHUNK)
        pieces.append(str(piece).zfill(_MANY))
    pieces.append(str(rest))
    digits = "".join(pieces[::-1])
    return "-" + digits if number < 0 else digits


def decimals(numbers):
    """The texts of some integers, with spaces between them."""
    return " ".join([decimal(number) for number in numbers])


def number_in(word, most):
    """The integer with exactly this text, None if there is none of at most so many digits."""
    digits = word.removeprefix("-")
    if not is_digits(digits) or len(digits) > most:
        return None
    number = int(word)
    return number if str(number) == word else None
