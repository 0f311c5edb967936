"""What tests ask of a letter: its heads, its writings, its words."""

from letterhall.basics import is_plain_sign, plain_sign

MOST_WORD = 12
WORD_SIGNS = "abcdefghijklmnopqrstuvwxyz0123456789"


def first_values(heads):
    """The value of the first head of each NAME."""
    told = {}
    for name, value in heads:
        told.setdefault(name, value)
    return told


def writings_of(body):
    """All writings of a body, however deep, in order."""
    word, inner = body
    if word == "words":
        return [inner]
    return [writing for part in inner for writing in writings_of(part[1])]


def plain_text(writing):
    """The text of a writing, with a blank for each sign that isn't plain."""
    return "".join([plain_sign(sign) if is_plain_sign(sign) else " " for sign in writing])


def words_in(text):
    """All words of a text, in order."""
    parted = "".join([sign if sign in WORD_SIGNS else " " for sign in text.lower()])
    return [word[:MOST_WORD] for word in parted.split()]


class Facts:
    """What may be asked of one letter; its words are looked for when they're first asked for."""

    def __init__(self, letter):
        heads, body = letter
        self.firsts = first_values(heads)
        self.writings = writings_of(body)
        self.word_rows = None

    def words(self):
        """The words as the keys of a dict, rising."""
        if self.word_rows is None:
            texts = [self.firsts.get("about", "")] + [plain_text(writing) for writing in self.writings]
            found = [word for text in texts for word in words_in(text)]
            self.word_rows = {word: True for word in sorted(found)}
        return self.word_rows

    def length(self):
        """How many signs all writings have together."""
        return sum([len(writing) for writing in self.writings])
