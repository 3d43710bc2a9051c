"""The words of which texts and a desk's lines are made: names, numbers, fans."""

from fankinds.forms import is_name

FIGURES = "0123456789"


def name_in(word):
    """The name that the word is; None where it is none."""
    return word if is_name(word) else None


def number_in(word):
    """The number that the word tells by its figures, without needless noughts; None where it tells none."""
    if len(word) == 0 or (word[0] == "0" and word != "0") or not all([sign in FIGURES for sign in word]):
        return None
    number = 0
    for sign in word:
        number = 10 * number + FIGURES.index(sign)
    return number


def fan_in(word):
    """The pair of a figure and a figure or None (*) that the word tells, perhaps no fan; None where it tells none."""
    if len(word) != 3 or word[0] not in FIGURES or word[1] != "-" or word[2] not in FIGURES + "*":
        return None
    return (FIGURES.index(word[0]), None if word[2] == "*" else FIGURES.index(word[2]))


def fan_word(fan):
    """The word that tells a fan."""
    low, high = fan
    return f"{low}-*" if high is None else f"{low}-{high}"
