"""The texts of CASES and of BOOKS."""

from worksward.casebook import is_case, need_book, need_case
from worksward.errors import BadText
from worksward.things import read_thing, thing_text


def case_text(case):
    """The text of a CASE."""
    return thing_text(need_case(case))


def read_case(string):
    """The CASE that a text writes."""
    thing = read_thing(string)
    if not is_case(thing):
        raise BadText(1)
    return thing


def book_text(book):
    """The text of a BOOK: the text of each CASE in a row."""
    need_book(book)
    return "\n".join([thing_text(case) for case in book])


def read_book(string):
    """The BOOK that a text writes."""
    if not isinstance(string, str):
        raise BadText(0)
    book = []
    if string != "":
        for number, row in enumerate(string.split("\n"), start=1):
            if number > 12:
                raise BadText(number)
            try:
                book.append(read_case(row))
            except BadText:
                raise BadText(number) from None
    return tuple(book)
