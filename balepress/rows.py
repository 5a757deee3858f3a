"""Rows: lists of whole numbers from 0 to 255."""

from balepress.errors import BadRow

GREATEST = 255


def is_number(thing):
    return isinstance(thing, int) and not isinstance(thing, bool)


def is_whole(thing, least, most):
    # The kind is asked first: a comparison could fail on any other kind, and True would pass for 1.
    return is_number(thing) and least <= thing <= most


def is_count(thing):
    return is_number(thing) and thing >= 0


def are_whole(thing, least, most):
    if not isinstance(thing, list):
        return False
    for number in thing:
        if not is_whole(number, least, most):
            return False
    return True


def is_row(thing):
    return are_whole(thing, 0, GREATEST)


def need_row(thing):
    # The words don't show the thing: there may be no way to show it.
    if not is_row(thing):
        raise BadRow("a row is a list of whole numbers from 0 to 255")
    return list(thing)
