"""Rules: tests of a letter, the deeds behind them, and what comes of both."""

from letterhall.basics import address_text, is_name, is_plain_text, is_tuple, is_within
from letterhall.facts import MOST_WORD, WORD_SIGNS, Facts
from letterhall.plans import is_address

MOST_TEXT = 40
MOST_LONGER = 9999
MOST_JOINED = 4
MOST_RULES = 4
MOST_DEEDS = 4

FIRST_BOX = "in"


def is_word(thing):
    """Whether it is a WORD."""
    if not isinstance(thing, str):
        return False
    return 1 <= len(thing) <= MOST_WORD and all([sign in WORD_SIGNS for sign in thing])


def is_rule_text(thing):
    """Whether it is a text that may stand in a test or an answer."""
    return is_plain_text(thing, 1, MOST_TEXT)


def is_leaf_test(thing):
    """Whether this tuple is a test without another one in it."""
    if len(thing) != 2:
        return thing == ("auto",)
    word, worth = thing
    if word == "from" or word == "to":
        return is_address(worth)
    if word == "word":
        return is_word(worth)
    if word == "about":
        return is_rule_text(worth)
    return word == "longer" and is_within(worth, 0, MOST_LONGER)


def is_joined(thing, is_leaf, deep):
    """Whether it is a leaf, or made of such by not, both, any, all at most so deep."""
    if deep == 0 or not is_tuple(thing, 1, 3):
        return False
    word, *inner = thing
    joins = word == "not" and len(inner) == 1 or word in ("both", "any") and len(inner) == 2
    if joins:
        return all([is_joined(one, is_leaf, deep - 1) for one in inner])
    return is_leaf(thing)


def is_test(thing):
    """Whether it is a test."""
    return is_joined(thing, is_leaf_test, MOST_JOINED)


def is_deed(thing):
    """Whether it is a deed of a rule."""
    if not is_tuple(thing, 2, 2):
        return thing == ("drop",) or thing == ("stop",)
    word, worth = thing
    if word == "file" or word == "mark":
        return is_name(worth)
    if word == "on":
        return is_address(worth)
    return word == "answer" and is_rule_text(worth)


def is_rule(thing):
    """Whether it is a pair (test, deeds)."""
    if not is_tuple(thing, 2, 2) or not is_test(thing[0]):
        return False
    return is_tuple(thing[1], 1, MOST_DEEDS) and all([is_deed(deed) for deed in thing[1]])


def is_rules(thing):
    """Whether these are rules."""
    return is_tuple(thing, 0, MOST_RULES) and all([is_rule(rule) for rule in thing])


def words_of(letter):
    """The rising list of a letter's words, each once."""
    return list(Facts(letter).words())


def joined_holds(joined, leaf_holds):
    """Whether not, both, any of leaves hold, where leaf_holds tells it of a leaf."""
    word = joined[0]
    if word == "not":
        return not joined_holds(joined[1], leaf_holds)
    if word == "both":
        return joined_holds(joined[1], leaf_holds) and joined_holds(joined[2], leaf_holds)
    if word == "any":
        return joined_holds(joined[1], leaf_holds) or joined_holds(joined[2], leaf_holds)
    return leaf_holds(joined)


def leaf_test_holds(test, facts):
    """Whether a test without another one in it holds of the letter with these facts."""
    word = test[0]
    if word == "auto":
        return "auto" in facts.firsts
    worth = test[1]
    if word == "from":
        return facts.firsts.get("from") == address_text(worth)
    if word == "to":
        return address_text(worth) in facts.firsts.get("to", "").split(" ")
    if word == "word":
        return worth in facts.words()
    if word == "about":
        return "about" in facts.firsts and worth in facts.firsts["about"]
    return facts.length() > worth


def test_holds(test, facts):
    """Whether a test holds of the letter with these facts."""
    return joined_holds(test, lambda leaf: leaf_test_holds(leaf, facts))


def holds(test, letter):
    """Whether a test holds of a letter."""
    return test_holds(test, Facts(letter))


def deeds_done(rules, facts):
    """The list of all deeds that come of the rules, each with its rule's number, up to a stop."""
    done = []
    for number, (test, deeds) in enumerate(rules):
        if test_holds(test, facts):
            for deed in deeds:
                if deed[0] == "stop":
                    return done
                done.append((number, deed))
    return done


def each_once(things):
    """The tuple of these things, each where it first stands."""
    told = []
    for thing in things:
        if thing not in told:
            told.append(thing)
    return tuple(told)


def judged_by(rules, facts):
    """What judged tells, of the letter with these facts."""
    done = deeds_done(rules, facts)
    boxes = each_once([deed[1] for number, deed in done if deed[0] == "file"])
    marks = each_once([deed[1] for number, deed in done if deed[0] == "mark"])
    ons = each_once([tuple(deed[1]) for number, deed in done if deed[0] == "on"])
    answers = each_once([(number, deed[1]) for number, deed in done if deed[0] == "answer"])
    dropped = "drop" in [deed[0] for number, deed in done]
    if dropped:
        boxes = ()
    elif not boxes and not ons:
        boxes = (FIRST_BOX,)
    return boxes, marks, ons, answers


def judged(rules, letter):
    """The tuple (boxes, marks, ons, answers) of what comes of a letter by these rules."""
    return judged_by(rules, Facts(letter))
