"""Letter sums: lists of pairs (power row, count), rising by power row."""

from postmead.errors import BadSum, NoLetter
from postmead.figures import whole_read
from postmead.parts import lowest
from postmead.posts import pair_of


def letter(a, b):
    """The sum of the letter of two unlike numbers, once, to the power one."""
    return [(((pair_of(a, b), 1),), 1)]


def sum_plus(one, other):
    """The two letter sums added."""
    return gathered(one + other)


def sum_times(one, other):
    """The two letter sums multiplied, each term with each."""
    return gathered([
        (row_times(row, other_row), count * other_count)
        for row, count in one
        for other_row, other_count in other
    ])


def row_times(one, other):
    """The power row of two power rows multiplied."""
    return tuple(gathered(one + other))


def gathered(pairs):
    """The pairs (key, number), numbers of a key added, rising by key, without nought.

    Both a letter sum (of rows and counts) and a power row (of letters and
    powers) are in the one form of the document just where this changes nothing.
    """
    totals = {}
    for key, number in pairs:
        totals[key] = totals.get(key, 0) + number
    return [(key, totals[key]) for key in sorted(totals) if totals[key] != 0]


def worth(one, lengths):
    """The worth of the letter sum under a dict from letters to fractions above nought."""
    # One bottom for all terms: lowest terms are slow to find where numbers are
    # long, and so they are looked for once instead of once for each term.
    bottom = shared_bottom(one, lengths)
    top = 0
    for row, count in one:
        above, below = row_worth(row, lengths)
        top += count * above * (bottom // below)
    return lowest(top, bottom)


def shared_bottom(one, lengths):
    """A whole number that the bottom of each row's worth divides."""
    most = {}
    for row, _ in one:
        for pair, power in row:
            if pair not in lengths:
                raise NoLetter("a letter of the sum has no length")
            key = (pair, bottom_place(power))
            most[key] = max(most.get(key, 0), abs(power))
    bottom = 1
    for (pair, place), power in most.items():
        bottom *= raised(lengths[pair][place], power)
    return bottom


def row_worth(row, lengths):
    """Each letter's fraction to its power, multiplied: top and bottom, not in lowest terms."""
    top = bottom = 1
    for pair, power in row:
        place = bottom_place(power)
        top *= raised(lengths[pair][1 - place], abs(power))
        bottom *= raised(lengths[pair][place], abs(power))
    return top, bottom


def bottom_place(power):
    """Which part of a letter's fraction goes below: its top where the power is below nought."""
    return 0 if power < 0 else 1


def raised(base, power):
    """The whole number to a power from nought on."""
    result = 1
    while power > 0:
        if power & 1:
            result *= base
        base *= base
        power >>= 1
    return result


def sum_text(one):
    """The letter sum as a text."""
    if not one:
        return "0"
    return " + ".join([term_text(row, count) for row, count in one])


def term_text(row, count):
    """One term as a text."""
    words = [f"{a}.{b}^{power}" for (a, b), power in row]
    return " ".join([str(count)] + words)


def sum_read(line):
    """The letter sum that the text writes; BadSum where it writes none."""
    if line == "0":
        return []
    terms = [term_read(words) for words in line.split(" + ")]
    if terms != gathered(terms):
        raise BadSum("terms rise, each once, no count nought")
    return terms


def term_read(text):
    """The pair (power row, count) that the text writes."""
    words = text.split(" ")
    count = whole_read(words[0])
    if count is None:
        raise BadSum("a term begins with its count")
    row = [power_read(word) for word in words[1:]]
    if row != gathered(row):
        raise BadSum("letters of a term rise, each once, no power nought")
    return (tuple(row), count)


def power_read(word):
    """The pair (letter, power) that the word writes."""
    numbers_word, _, power_word = word.partition("^")
    numbers = [whole_read(figures) for figures in numbers_word.split(".") + [power_word]]
    if len(numbers) != 3 or None in numbers:
        raise BadSum("a letter is two numbers with a point between, and its power")
    a, b, power = numbers
    if not 0 <= a < b:
        raise BadSum("the numbers of a letter are from nought on, the first the less")
    return ((a, b), power)
