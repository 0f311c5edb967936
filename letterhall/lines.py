"""Rows of words parted by one blank: what each word says, by its sort; None where it isn't so written."""

from letterhall.basics import is_figures, is_name, is_within
from letterhall.codes import WAYS, signs_of
from letterhall.forms import MOST_MANY, MOST_TICKS, is_about, is_to
from letterhall.plans import is_address
from letterhall.rules import is_rule_text, is_word

MOST_FIGURES = 6

# With a sign for the blank, which parts words.
TEXT_SIGNS = "abcdefghijklmnopqrstuvwxyz0123456789_"
NO_SIGN = "-"


def name_in(word):
    """The NAME that a word is."""
    return word if is_name(word) else None


def way_in(word):
    """The way that a word is."""
    return word if word in WAYS else None


def number_in(word):
    """The number that a word is."""
    return int(word) if is_figures(word, MOST_FIGURES) else None


def many_in(word):
    """How many ticks are to go by."""
    number = number_in(word)
    return number if is_within(number, 1, MOST_MANY) else None


def ticks_in(word):
    """The term that a word is."""
    number = number_in(word)
    return number if is_within(number, 1, MOST_TICKS) else None


def address_in(word):
    """The address that a word is."""
    address = tuple(word.split("@"))
    return address if is_address(address) else None


def to_in(word):
    """The addresses to which a letter is to go."""
    addresses = tuple([address_in(one) for one in word.split(",")])
    return addresses if is_to(addresses) else None


def search_in(word):
    """The WORD that a word is."""
    return word if is_word(word) else None


def text_in(word):
    """The text that a word stands for, of no sign too."""
    if word == NO_SIGN:
        return ""
    if word == "" or not all([sign in TEXT_SIGNS for sign in word]):
        return None
    return word.replace("_", " ")


def about_in(word):
    """What a letter is to be about."""
    text = text_in(word)
    return text if is_about(text) else None


def body_in(word):
    """The body of a letter's signs."""
    text = text_in(word)
    return None if text is None else ("words", tuple(signs_of(text)))


def saying_in(word):
    """The text with which letters are to be answered."""
    text = text_in(word)
    return text if is_rule_text(text) else None


READERS_OF = {
    "name": name_in, "way": way_in, "number": number_in, "many": many_in, "ticks": ticks_in, "address": address_in,
    "to": to_in, "search": search_in, "about": about_in, "body": body_in, "saying": saying_in,
}


def word_read(sort, word):
    """What a word of this sort says."""
    reader = READERS_OF[sort]
    return reader(word)


def words_read(sorts, words):
    """The tuple of what words of these sorts say; None where they aren't as many, or one isn't so written."""
    if len(words) != len(sorts):
        return None
    told = tuple([word_read(sort, word) for sort, word in zip(sorts, words)])
    return None if None in told else told
