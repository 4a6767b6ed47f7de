"""Yards: meads kept by name, and lines that say what is done to them."""

from postmead.counts import cutting_at, number_of
from postmead.cuts import LEAST_POSTS, MOST_POSTS, ties
from postmead.errors import (
    Few, Full, HasRopes, NoBack, NoFraction, NoName, NoNumber, NoPost, NoRope, Taken)
from postmead.figures import whole_read
from postmead.mead import Mead
from postmead.parts import ONE, part_read, part_text
from postmead.sheets import mead_read, mead_text

MOST_SIGNS = 8


def lay_line(held, name, n, number):
    """Keeps a mead of n posts with the cutting of the number, all lengths one."""
    # cutting_at itself refuses no number of posts.
    if not LEAST_POSTS <= n <= MOST_POSTS:
        raise NoPost("a mead has 3 to 12 posts")
    cut = cutting_at(n, number)
    held[name] = Mead(n, cut, {tie: ONE for tie in ties(n, cut)})
    return "ok"


def turn_line(held, name, a, b):
    """Turns a rope."""
    one, other = held[name].turn(a, b)
    return f"{one} {other}"


def stretch_line(held, name, post, factor):
    """Stretches a post."""
    held[name].stretch(post, factor)
    return "ok"


def set_line(held, name, k, one, other):
    """Sets a post out."""
    return str(held[name].set_out(k, one, other))


def draw_line(held, name, post):
    """Draws a post."""
    to_ahead, to_next = held[name].draw(post)
    return f"{part_text(to_ahead)} {part_text(to_next)}"


def length_line(held, name, a, b):
    """Measures a length."""
    return part_text(held[name].length(a, b))


def posts_line(held, name):
    """Counts the posts."""
    return str(held[name].posts())


def cutting_line(held, name):
    """Tells the cutting's number."""
    mead = held[name]
    return str(number_of(mead.posts(), mead.ropes()))


def back_line(held, name):
    """Takes a deed back."""
    return held[name].back()[0]


def again_line(held, name):
    """Does a deed again."""
    return held[name].again()[0]


def lead_line(held, name, number):
    """Leads to the cutting of the number."""
    return str(len(held[name].lead(number)))


def twin_line(held, name, other):
    """Keeps a twin by another name."""
    held[other] = held[name].twin()
    return "ok"


def drop_line(held, name):
    """Holds a name no more."""
    del held[name]
    return "ok"


def alike_line(held, name, other):
    """Tells whether two meads are alike."""
    return "yes" if held[name].alike_to(held[other]) else "no"


# What does a line, by its first word.
ACTIONS = {
    "lay": lay_line,
    "turn": turn_line,
    "stretch": stretch_line,
    "set": set_line,
    "draw": draw_line,
    "length": length_line,
    "posts": posts_line,
    "cutting": cutting_line,
    "back": back_line,
    "again": again_line,
    "lead": lead_line,
    "twin": twin_line,
    "drop": drop_line,
    "alike": alike_line,
}

# The kinds of the words behind the first one: "held" is a name that is to be held,
# "new" one that is not to be, "number" a number from nought on, "part" a fraction.
KINDS = {
    "lay": ("new", "number", "number"),
    "turn": ("held", "number", "number"),
    "stretch": ("held", "number", "part"),
    "set": ("held", "number", "part", "part"),
    "draw": ("held", "number"),
    "length": ("held", "number", "number"),
    "posts": ("held",),
    "cutting": ("held",),
    "back": ("held",),
    "again": ("held",),
    "lead": ("held", "number"),
    "twin": ("held", "new"),
    "drop": ("held",),
    "alike": ("held", "held"),
}


def is_name(text):
    """True where the text is one to eight signs, a to z alone."""
    return 1 <= len(text) <= MOST_SIGNS and all(["a" <= sign <= "z" for sign in text])


def number_read(word):
    """The number from nought on that the word writes, or None."""
    number = whole_read(word)
    return None if number is None or number < 0 else number


def fraction_read(word):
    """The fraction that the word writes, or None."""
    try:
        return part_read(word)
    except NoFraction:
        return None


def word_read(word, kind):
    """What a word of the kind says, or None where it is not written as the kind wants."""
    if kind == "number":
        return number_read(word)
    if kind == "part":
        return fraction_read(word)
    return word if is_name(word) else None


def words_read(kinds, words):
    """What the words of these kinds say, or None where not each is written as it should."""
    if len(words) != len(kinds):
        return None
    said = [word_read(word, kind) for word, kind in zip(words, kinds)]
    return None if None in said else said


def names_refusal(held, kinds, said):
    """The answer that a name among what the words say calls for, or None."""
    if any([kind == "held" and word not in held for kind, word in zip(kinds, said)]):
        return "no name"
    if any([kind == "new" and word in held for kind, word in zip(kinds, said)]):
        return "taken"
    return None


def line_done(held, action, said):
    """Does a line and answers; what the deed refuses is answered, too."""
    try:
        return action(held, *said)
    except NoPost:
        return "no post"
    except NoRope:
        return "no rope"
    except NoFraction:
        return "no fraction"
    except NoNumber:
        return "no number"
    except Full:
        return "full"
    except Few:
        return "few"
    except HasRopes:
        return "has ropes"
    except NoBack:
        return "no back"


class Yard:
    """Meads by name."""

    def __init__(self):
        self._held = {}

    def names(self):
        """The names held, rising."""
        return sorted(self._held)

    def put(self, name, sheet):
        """Keeps the mead of a sheet by a new name; NoName, then Taken, then BadSheet."""
        if not is_name(name):
            raise NoName("a name has one to eight signs, a to z")
        if name in self._held:
            raise Taken("the name is held")
        self._held[name] = mead_read(sheet)

    def sheet(self, name):
        """The sheet of the mead of a name; NoName where it is not held."""
        if name not in self._held:
            raise NoName("the name is not held")
        return mead_text(self._held[name])

    def deed(self, line):
        """Does a line and answers; a line that can't be done changes nothing."""
        first, *words = line.split(" ")
        if first not in KINDS:
            return "no line"
        kinds = KINDS[first]
        said = words_read(kinds, words)
        if said is None:
            return "no line"
        refusal = names_refusal(self._held, kinds, said)
        if refusal is not None:
            return refusal
        action = ACTIONS[first]
        return line_done(self._held, action, said)
