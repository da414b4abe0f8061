"""Lines: how facts are written for a console, in words."""

from evenmarket.errors import BadText
from evenmarket.forms import kinds_of_deed, kinds_of_fact
from evenmarket.texts import is_signed

# Lines whose words are the items of their fact, behind the day.
PLAIN = ("pay", "price", "lend", "fund", "way", "close")
# Kinds of items that are words; the others are integers.
WORDED = ("member", "stuff", "contract", "way")


def fact_of(line, day):
    """The fact of a day with the items that a line tells, whether it may be told or not."""
    word, *words = line.split(" ")
    if word in PLAIN:
        return (word, day, *items_of(kinds_of_fact(word)[1:], words))
    if word == "fill":
        return ("fill", *items_of(kinds_of_fact("fill"), words))
    if word == "queue" and len(words) >= 3:
        return ("queue", day, words[0], words[1], [number_of(one) for one in words[2:]])
    if word == "slip":
        return ("slip", day, [deed_of(part) for part in " ".join(words).split(" / ")])
    raise BadText()


def number_of(word):
    """The integer that a word is."""
    if not is_signed(word):
        raise BadText()
    return int(word)


def price_of(word):
    """The price that a word is, None for any."""
    return None if word == "any" else number_of(word)


def check_many(words, many):
    """Raise BadText unless there are so many words."""
    if len(words) != many:
        raise BadText()


def deed_of(part):
    """The deed that a part of a line tells."""
    word, *words = part.split(" ")
    kinds = kinds_of_deed(word)
    if kinds is None:
        raise BadText()
    return (word, *items_of(kinds, words))


def items_of(kinds, words):
    """The items of some kinds that words tell."""
    check_many(words, len(kinds))
    return [item_of(kind, word) for kind, word in zip(kinds, words)]


def item_of(kind, word):
    """The item of a kind that a word tells."""
    if kind in WORDED:
        return word
    if kind == "index" and word == "none":
        return None
    return number_of(word)
