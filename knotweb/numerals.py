"""Numbers as words."""


def is_numeral(word, most):
    """Whether a word is a number of at most so many figures, with no 0 ahead of others."""
    if len(word) > most or not word.isascii() or not word.isdigit():
        return False
    return word == "0" or not word.startswith("0")
