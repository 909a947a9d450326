"""Letters, sources that weigh them, and fractions."""

from piecebooks.errors import NoLetters, NoSize, NoSource

LETTERS = "abcd"
FEWEST_LETTERS = 2
GREATEST_WEIGHT = 99


# Python counts its truths among the ints; here they are no numbers.
def is_whole(thing):
    return isinstance(thing, int) and not isinstance(thing, bool)


def is_between(thing, least, most):
    return is_whole(thing) and least <= thing <= most


def is_weight(thing):
    return is_between(thing, 1, GREATEST_WEIGHT)


def is_source(thing):
    if not isinstance(thing, tuple):
        return False
    if not FEWEST_LETTERS <= len(thing) <= len(LETTERS):
        return False
    return all([is_weight(part) for part in thing])


def is_text_of(many, thing):
    letters = LETTERS[:many]
    return isinstance(thing, str) and all([sign in letters for sign in thing])


# The words of a refusal don't show the thing: Python refuses to write very great numbers.
def require_source(thing):
    if not is_source(thing):
        raise NoSource("this is no tuple of 2 to 4 weights from 1 to 99")


def require_text_of(many, thing):
    if not is_text_of(many, thing):
        raise NoLetters("this is no text of these letters")


def require_between(thing, least, most):
    if not is_between(thing, least, most):
        raise NoSize("this is no whole number within its bounds")


def greatest_divisor(one, other):
    while other != 0:
        rest = one % other
        one = other
        other = rest
    return one


def lowest(up, down):
    divisor = greatest_divisor(up, down)
    return (up // divisor, down // divisor)


def share(source, text):
    require_source(source)
    require_text_of(len(source), text)
    weights = dict(zip(LETTERS, source))
    whole = sum(source)
    up = 1
    down = 1
    for letter in text:
        up = up * weights[letter]
        down = down * whole
    return lowest(up, down)


def added(one, other):
    return lowest(one[0] * other[1] + other[0] * one[1], one[1] * other[1])


def is_less(one, other):
    return one[0] * other[1] < other[0] * one[1]
