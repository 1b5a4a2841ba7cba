"""Numbers written in figures, by tens and by sixteens."""

TENS = "0123456789"
SIXTEENS = "0123456789abcdef"
MOST_FIGURES = 40


def number_by_tens(text):
    """The number that is written by tens, None where the text is no such one."""
    return signed_number(text, "", TENS)


def number_by_tens_or_sixteens(text):
    """The number that is written by tens, or by sixteens behind an x; None where the text is no such one."""
    number = number_by_tens(text)
    return signed_number(text, "x", SIXTEENS) if number is None else number


def signed_number(text, ahead, signs):
    """The number written with these signs as its figures behind the text ahead, a minus first below 0, or None."""
    below = text.startswith("-")
    figures = text[1:] if below else text
    if not figures.startswith(ahead):
        return None
    number = plain_number(figures[len(ahead):], signs)
    if number is None or (below and number == 0):
        return None
    return -number if below else number


def plain_number(figures, signs):
    """The number that is written with these signs as its figures, no nought ahead but of 0 itself, or None."""
    if not 1 <= len(figures) <= MOST_FIGURES or (figures[0] == "0" and figures != "0"):
        return None
    number = 0
    for figure in figures:
        if figure not in signs:
            return None
        number = number * len(signs) + signs.index(figure)
    return number
