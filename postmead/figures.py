"""Whole numbers as they stand in texts."""

MOST_FIGURES = 400


def whole_read(word):
    """The whole number that the word writes, or None where it writes none."""
    figures = word.removeprefix("-")
    # The length comes first: Python's own int refuses very long texts with a ValueError.
    if len(figures) > MOST_FIGURES:
        return None
    # isdigit alone would also take figures of other scripts.
    if not (figures.isascii() and figures.isdigit()):
        return None
    if figures[0] == "0" and word != "0":
        return None
    return int(word)
