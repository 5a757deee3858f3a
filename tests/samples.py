"""Wrong inputs that several tests hand in."""


class Touchy:
    """Fails as soon as it is compared, hashed, counted, walked or shown."""

    def fail(self, *others):
        raise RuntimeError("touched")

    __eq__ = __ne__ = __lt__ = __le__ = __gt__ = __ge__ = fail
    __hash__ = __len__ = __iter__ = __bool__ = __repr__ = __str__ = __index__ = __int__ = fail


def no_whole_numbers():
    return [True, False, None, "", "8", "a", 0.0, 1.0, 8.0, 16.0, 1.5, 8 + 0j, b"", b"a",
            [], [8], (), (8,), {}, {8: 8}, set(), range(8), object(), Touchy(), int, len]


def no_lists():
    return [True, False, None, 0, 1, 255, "", "abc", 1.0, b"", b"abc", bytearray(b"abc"),
            (), (1, 2), {}, {1: 2}, {1, 2}, range(3), iter([1]), object(), Touchy(), list]


def no_signs():
    return [-1, 256, 1000, -256, 10 ** 5000, -10 ** 5000] + no_whole_numbers()


def no_rows():
    rows = no_lists()
    for thing in no_signs():
        rows += [[thing], [thing, 1, 2], [1, thing, 2], [1, 2, thing]]
    return rows


def spread(seed, many, below):
    """Numbers that look like chance and are the same each time."""
    told, state = [], seed
    for step in range(many):
        state = (state * 6364136223846793005 + 1442695040888963407) % 2 ** 64
        told.append((state >> 33) % below)
    return told
