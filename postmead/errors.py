"""The refusals, each a class of its own straight under MeadError."""


class MeadError(ValueError):
    """What every refusal stands under."""


class NoFraction(MeadError):
    """What was to be a fraction is none, or is not above nought where it has to be."""


class NoLetter(MeadError):
    """A letter of a sum has no length."""


class BadSum(MeadError):
    """A text is no letter sum as written."""


class NoCutting(MeadError):
    """The ropes are no cutting of so many posts."""


class NoPost(MeadError):
    """A post is not there, or two posts are one."""


class NoRope(MeadError):
    """Two posts have no rope, or no tie, between them."""


class NoNumber(MeadError):
    """No cutting has the number."""


class BadTable(MeadError):
    """The rows are no table."""


class NotMead(MeadError):
    """A table breaks the rule of four; `four` is the least (a, b, c, d) that breaks it."""

    def __init__(self, four):
        super().__init__("four posts break the rule of four")
        self.four = four


class BadPairs(MeadError):
    """A length made of pairs is not above nought; `two` is the least such (i, k)."""

    def __init__(self, two):
        super().__init__("two pairs make a length that is not above nought")
        self.two = two


class BadLength(MeadError):
    """The lengths of a mead are not one fraction above nought for each tie."""


class Full(MeadError):
    """The mead has as many posts as it can have."""


class Few(MeadError):
    """The mead has as few posts as it can have."""


class HasRopes(MeadError):
    """A rope is at the post that was to go."""


class NoBack(MeadError):
    """There is no deed to take back or to do again."""


class BadSheet(MeadError):
    """A text is no sheet as written."""


class NoName(MeadError):
    """A text is no name, or no name that is held."""


class Taken(MeadError):
    """A name that was to be new is held."""
