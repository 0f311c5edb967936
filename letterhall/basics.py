"""What all other files need: numbers, NAMEs, plain signs, tuples."""

SMALL_LETTERS = "abcdefghijklmnopqrstuvwxyz"

# In the order of their numbers; the one with the number 37 is left out.
PLAIN_SIGNS = " !\"#$&'()*+,-./0123456789:;<=>?@ABCDEFGHIJKLMNOPQRSTUVWXYZ[\\]^_`abcdefghijklmnopqrstuvwxyz{|}~"
FIRST_PLAIN = 32
LAST_PLAIN = 126
NEVER_PLAIN = 37

MOST_NAME = 8

FIGURES = "0123456789"


def is_number(thing):
    """Whether it is a whole number: Python counts True and False among these, we don't."""
    return isinstance(thing, int) and not isinstance(thing, bool)


def is_within(thing, least, most):
    """Whether it is a number from least to most."""
    return is_number(thing) and least <= thing <= most


def is_name(thing):
    """Whether it is a NAME."""
    if not isinstance(thing, str):
        return False
    return 1 <= len(thing) <= MOST_NAME and all([letter in SMALL_LETTERS for letter in thing])


def is_plain_text(thing, least, most):
    """Whether it is a text of least to most signs, all of them plain."""
    if not isinstance(thing, str):
        return False
    return least <= len(thing) <= most and all([sign in PLAIN_SIGNS for sign in thing])


def is_figures(text, most):
    """Whether a text is a number in plain figures, at most so many, no nought ahead but 0 itself."""
    if not 1 <= len(text) <= most or not all([figure in FIGURES for figure in text]):
        return False
    return text == "0" or text[0] != "0"


def is_tuple(thing, least, most):
    """Whether it is a tuple of least to most things."""
    return isinstance(thing, tuple) and least <= len(thing) <= most


def all_unlike(things):
    """Whether no two of these texts, or tuples of texts, are alike."""
    return len(set(things)) == len(things)


def is_plain_sign(sign):
    """Whether this number is that of a plain sign."""
    return FIRST_PLAIN <= sign <= LAST_PLAIN and sign != NEVER_PLAIN


def plain_sign(sign):
    """The text of the plain sign with this number."""
    place = sign - FIRST_PLAIN
    return PLAIN_SIGNS[place - 1] if sign > NEVER_PLAIN else PLAIN_SIGNS[place]


def cut_up(text, size):
    """The text in pieces of this size, the last one of what is left; of no sign none."""
    return [text[at:at + size] for at in range(0, len(text), size)]


def tupled(thing):
    """The same with tuples for all lists, however deep; so nobody can change it any more."""
    if isinstance(thing, (list, tuple)):
        return tuple([tupled(one) for one in thing])
    return thing


def is_same(told, thing):
    """Whether a thing is just what was told, kind by kind: True isn't 1, a list no tuple."""
    if isinstance(told, (list, tuple)):
        alike = isinstance(thing, list) if isinstance(told, list) else isinstance(thing, tuple)
        if not alike or len(told) != len(thing):
            return False
        return all([is_same(one, other) for one, other in zip(told, thing)])
    return isinstance(told, bool) == isinstance(thing, bool) and told == thing


def address_text(address):
    """NAME@NAME of an address."""
    name, house = address
    return f"{name}@{house}"
