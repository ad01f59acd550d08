"""Numbers written in figures [29], [30]."""

FIGURES = "0123456789"
MOST_FIGURES = 6


def is_number(text, most):
    if len(text) < 1 or len(text) > most:
        return False
    # Python's own isdigit takes figures of other scripts, too.
    if not all([sign in FIGURES for sign in text]):
        return False
    return text == "0" or text[0] != "0"


def are_numbers(texts, most):
    return all([is_number(text, most) for text in texts])
