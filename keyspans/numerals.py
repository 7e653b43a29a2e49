"""Numerals: whole numbers in decimal digits, as Python writes them."""

_DIGITS = "0123456789"


def is_numeral(text):
    """Whether a text is a number from 0 on, without a leading zero."""
    # int() would take signs, blanks and underscores, too.
    if text == "" or (text.startswith("0") and text != "0"):
        return False
    return all([digit in _DIGITS for digit in text])


def number_of(digits):
    """The number of a numeral, 0 for a text without digits."""
    # Digit by digit, because int() does not take texts of some thousand digits.
    number = 0
    for digit in digits:
        number = number * 10 + int(digit)
    return number


def written(number):
    """A number in digits, with a sign ahead of it if it is below 0."""
    # Piece by piece, because str() does not take numbers of some thousand digits.
    digits = ""
    rest = abs(number)
    while rest > 0:
        rest, piece = divmod(rest, 10 ** 60)
        digits = str(piece).zfill(60) + digits
    digits = digits.lstrip("0") or "0"
    return "-" + digits if number < 0 else digits
