"""Texts told by pieces: signs, and copies of what stands ahead, in the text or in the window ahead of it."""

from balepress.errors import BadPieces, BadRow
from balepress.rows import GREATEST, is_whole, need_row

FARTHEST = 255
LEAST_COPIED = 3
MOST_COPIED = 18


def need_window(before, most):
    if before is None:
        return []
    window = need_row(before)
    if len(window) > most:
        raise BadRow(f"a window has at most {most} signs")
    return window


def alike_from(signs, place, back, most):
    size = 0
    while size < most and signs[place + size] == signs[place + size - back]:
        size = size + 1
    return size


def longest_copy(signs, place):
    most = min(MOST_COPIED, len(signs) - place)
    best_back = 0
    best_size = 0
    for back in range(1, min(FARTHEST, place) + 1):
        if best_size == most:
            break
        # A longer copy must go on at the sign where the longest one so far ends: most are passed over by it.
        if signs[place + best_size] == signs[place + best_size - back]:
            size = alike_from(signs, place, back, most)
            if size > best_size:
                best_back = back
                best_size = size
    return ("copy", best_back, best_size)


def pieces_of(text, before=None):
    own_signs = need_row(text)
    signs = need_window(before, FARTHEST) + own_signs
    place = len(signs) - len(own_signs)
    pieces = []
    while place < len(signs):
        found = longest_copy(signs, place)
        if found[2] >= LEAST_COPIED:
            pieces.append(found)
            place = place + found[2]
        else:
            pieces.append(("sign", signs[place]))
            place = place + 1
    return pieces


def is_piece(thing):
    # The word's kind is asked first: a comparison could fail on any other kind.
    if not isinstance(thing, tuple) or len(thing) == 0 or not isinstance(thing[0], str):
        return False
    if thing[0] == "sign":
        return len(thing) == 2 and is_whole(thing[1], 0, GREATEST)
    if thing[0] == "copy" and len(thing) == 3:
        return is_whole(thing[1], 1, FARTHEST) and is_whole(thing[2], LEAST_COPIED, MOST_COPIED)
    return False


def add_copy(signs, back, size):
    # One by one: a copy may reach into its own signs.
    for step in range(size):
        signs.append(signs[-back])


def text_of(pieces, before=None):
    signs = need_window(before, FARTHEST)
    window_size = len(signs)
    if not isinstance(pieces, list):
        raise BadPieces("pieces come in a list")
    for piece in pieces:
        if not is_piece(piece):
            raise BadPieces("a piece is a sign or a copy of 3 to 18 signs from 1 to 255 places back")
        if piece[0] == "sign":
            signs.append(piece[1])
        elif piece[1] > len(signs):
            raise BadPieces("a copy reaches farther back than there are signs")
        else:
            add_copy(signs, piece[1], piece[2])
    return signs[window_size:]
