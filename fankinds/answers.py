"""Answers: whether one kind lies within another, in every house, in every house that ends, or not."""

from fankinds.bare import bare_by, bare_paper, right_bare
from fankinds.forms import is_tuple_of
from fankinds.parting import parting, right_parting
from fankinds.plans import plan_of, right_plan
from fankinds.rows import is_row, row_to
from fankinds.turned import long_row, right_long


def answer(book, low, high):
    """The word of the three that is right of low and high, with its papers."""
    row = row_to(book, low, high)
    if row is not None:
        return ("ever", row)
    found = parting(book, low, high)
    if found is not None:
        return ("not", found)
    return ("ended", ended_paper(book, low, high), plan_of(book, low, high))


def ended_paper(book, low, high):
    """Why low lies within high in every house that ends: low is bare, or a long row leads there."""
    paper = bare_paper(book)
    if low in bare_by(book, paper):
        return ("bare", paper)
    return ("row", long_row(book, low, high))


def right_answer(book, low, high, thing):
    """Whether anything is a right answer of low and high."""
    if is_tuple_of(thing, 2) and thing[0] == "ever":
        return is_row(book, low, high, thing[1])
    if is_tuple_of(thing, 2) and thing[0] == "not":
        return right_parting(book, low, high, thing[1])
    if is_tuple_of(thing, 3) and thing[0] == "ended":
        # Where a row leads to high no plan is right, so that no row need be sought.
        return right_ended_paper(book, low, high, thing[1]) and right_plan(book, low, high, thing[2])
    return False


def right_ended_paper(book, low, high, thing):
    """Whether anything shows that low lies within high in every house that ends."""
    if not is_tuple_of(thing, 2):
        return False
    word, paper = thing
    if word == "bare":
        return right_bare(book, paper) and low in bare_by(book, paper)
    return word == "row" and right_long(book, low, high, paper)
