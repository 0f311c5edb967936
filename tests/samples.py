"""What several tests need: writings, letters, plans, and texts made by other means."""

import itertools
import random

from letterhall.codes import WAYS, coded

ELM = ("elm", ("ann", "bob"), (("all", (("ann", "elm"), ("cid", "oak"))),), ("plain", "marked"), 400)
OAK = ("oak", ("cid",), (), WAYS, 9000)
PLAN = ((ELM, OAK), (("elm", "oak", 2),))

SOME_WAYS = [ways for many in (1, 2, 3) for ways in itertools.permutations(WAYS, many)]


def signs(text):
    """The writing of a text."""
    return tuple(ord(sign) for sign in text)


def words(text):
    """The body of a text."""
    return ("words", signs(text))


def part(text, *heads):
    """A part, or a letter, of words."""
    return (heads, words(text))


def parts(*inner):
    """A body of parts."""
    return ("parts", inner)


def listed(thing):
    """The same, made anew, with lists for all tuples."""
    return [listed(one) for one in thing] if isinstance(thing, (list, tuple)) else thing


def tupled(thing):
    """The same, made anew, with tuples for all lists."""
    return tuple(tupled(one) for one in thing) if isinstance(thing, (list, tuple)) else thing


def kinds(thing):
    """The thing with the kinds of all that it's made of: so that 1 isn't True."""
    if isinstance(thing, (list, tuple)):
        return (type(thing).__name__, [kinds(one) for one in thing])
    return (type(thing).__name__, thing)


def writings_of(body):
    """All writings of a body, in the order of their rows."""
    if body[0] == "words":
        return [body[1]]
    return [writing for heads, inner in body[1] for writing in writings_of(inner)]


def rows_by(letter, ways, marks):
    """The rows of a letter, the ways and marks taken from these in the order of their rows."""
    heads, (word, inner) = letter
    rows = []
    for name, value in heads:
        rows.append(name + ": " + value[:60])
        rest = value[60:]
        while rest:
            rows.append(" " + rest[:59])
            rest = rest[59:]
    rows.append("")
    if word == "words":
        way = ways.pop(0)
        return rows + ["words " + way] + coded(inner, way)
    mark = marks.pop(0)
    rows.append("parts " + str(mark))
    for one in inner:
        rows.append("-" + str(mark))
        rows.extend(rows_by(one, ways, marks))
    return rows + ["-" + str(mark) + " end"]


def some_writing(chance):
    """A writing with lines, marks, long stretches and signs of all kinds."""
    pick = chance.choice(("plain", "lines", "any", "equal", "marks", "none"))
    many = chance.choice((0, 1, 2, 5, 59, 60, 61, 90, 300))
    if pick == "plain":
        return tuple(chance.choice(signs("ab =-0~ ")) for k in range(many))
    if pick == "lines":
        return tuple(chance.choice((10, 97, 32)) for k in range(many))
    if pick == "any":
        return tuple(chance.choice((0, 10, 37, 61, 126, 127, 255, 65535, 97)) for k in range(many))
    if pick == "equal":
        return (61,) * many
    if pick == "marks":
        return signs("\n".join(chance.choice(("-0", "-1", "-0 end", "-1 end", "", "parts 0")) for k in range(6)))
    return ()


def some_heads(chance):
    """Some heads, short and long ones."""
    sizes = (0, 1, 59, 60, 61, 118, 119, 120, 178, 179, 237, 238, 296, 297, 300)
    return tuple((chance.choice(("a", "to", "abcdefgh")), "".join(chance.choice(" -:x~") for k in range(chance.choice(sizes))))
                 for many in range(chance.choice((0, 0, 1, 2, 4))))


def some_letter(chance, deep=3):
    """A letter at most so deep."""
    if deep == 1 or chance.random() < 0.3:
        return (some_heads(chance), ("words", some_writing(chance)))
    inner = tuple(some_letter(chance, deep - 1) for k in range(chance.choice((1, 1, 2, 3, 4))))
    return (some_heads(chance), ("parts", inner))


def letters(many, seed=7):
    """So many letters, always the same."""
    chance = random.Random(seed)
    return [some_letter(chance) for k in range(many)]


def odd_things():
    """Things of all kinds, none of them a body, a letter, an address or a plan."""
    deep_tuple = ()
    deep_list = []
    for k in range(39):
        deep_tuple = (deep_tuple,)
        deep_list = [deep_list]
    return [0, 1, -1, 65536, 10 ** 20, True, False, None, "", "words", "a\nb", (), [], ((),), ([],), ((), ()), [(), ()],
            ((), (), ()), (None, None), ("words",), ("parts",), ("words", None), ("parts", None), ("words", "WORDS"),
            ("", ""), ((), ""), ((), None), ((), True), ("a", "b", "c"), "ab", deep_tuple, deep_list,
            (deep_tuple, deep_tuple), ("words", deep_tuple), ("parts", deep_tuple), ("parts", (deep_list,)),
            (0,) * 5999, [0] * 5999, ("words", (0,) * 5990), ("parts", ((),) * 5990), ((("a", ""),) * 1900, ())]
