"""Sheets: meads as texts."""

from postmead.cuts import ropes_among
from postmead.errors import BadLength, BadSheet, NoCutting, NoFraction
from postmead.figures import whole_read
from postmead.mead import Mead
from postmead.parts import part_read, part_text


def mead_text(mead):
    """The mead as a text."""
    lengths = mead.lengths()
    rows = [f"{a} {b} {part_text(lengths[(a, b)])}" for a, b in sorted(lengths)]
    return "\n".join([f"mead {mead.posts()}"] + rows + ["end", ""])


def mead_read(text):
    """The Mead that the text writes; BadSheet where it writes none."""
    try:
        mead = rows_read(text.split("\n"))
    except (NoCutting, BadLength, NoFraction):
        raise BadSheet("the rows are no mead") from None
    # Whatever else is not written as a sheet is (rows out of order or twice, the
    # last row or line feed), the mead that was read from it is written otherwise.
    if mead_text(mead) != text:
        raise BadSheet("the text is not written as a sheet is")
    return mead


def rows_read(rows):
    """The Mead of the rows; what is behind the ties' rows is not looked at."""
    n = numbers_read(rows[0].split(" ")[1:], 1)[0]
    lengths = {}
    for row in rows[1:-2]:
        words = row.split(" ")
        a, b = numbers_read(words[:-1], 2)
        lengths[(a, b)] = part_read(words[-1])
    return Mead(n, ropes_among(n, lengths), lengths)


def numbers_read(words, count):
    """The so many whole numbers that the words write; BadSheet where they write others."""
    numbers = [whole_read(word) for word in words]
    if len(numbers) != count or None in numbers:
        raise BadSheet("a row has its numbers with one blank between")
    return numbers
