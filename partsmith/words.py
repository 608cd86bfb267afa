"""Numbers as texts: read from words with few figures, written at any size."""

FIGURES = "0123456789"


def read_number(text, most):
    """The number of one to `most` figures, without a 0 ahead; None where the text is none."""
    if len(text) < 1 or len(text) > most:
        return None
    # isdigit would let through figures of other scripts.
    if not all([sign in FIGURES for sign in text]):
        return None
    if text[0] == "0" and len(text) > 1:
        return None
    return int(text)


def read_signed(text, most):
    """Like read_number, but - may stand ahead of a number other than 0."""
    if not text.startswith("-"):
        return read_number(text, most)
    number = read_number(text[1:], most)
    if number is None or number == 0:
        return None
    return -number


def number_text(number):
    """A whole number of any size as figures, with - ahead where it is below 0."""
    if number < 0:
        return "-" + number_text(-number)
    # In blocks, since str refuses a number of some thousands of figures.
    block = 10 ** 64
    text = ""
    while number >= block:
        text = str(number % block).zfill(64) + text
        number = number // block
    return str(number) + text
