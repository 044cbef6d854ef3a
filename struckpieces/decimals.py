"""Numbers from 0 on as they are written, of however many digits: Python's own int and str take some thousands."""

from struckpieces.kinds import is_text

DIGITS = "0123456789"
# So many digits are written at once.
STRETCH = 18
BEYOND = 1000000000000000000


def number_text(number):
    """A number as it is written."""
    stretches = []
    while number >= BEYOND:
        number, low = divmod(number, BEYOND)
        stretches.append(str(low).zfill(STRETCH))
    stretches.append(str(number))
    return "".join(stretches[::-1])


def number_told(text):
    """The number that a text is as it is written, None for another text."""
    if not text or not is_text(DIGITS, text) or (text[0] == "0" and text != "0"):
        return None
    number = 0
    for digit in text:
        number = number * 10 + DIGITS.index(digit)
    return number
