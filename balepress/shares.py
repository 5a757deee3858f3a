"""Lengths of codes by how often each thing comes: none above a greatest one, and the fewest bits in all."""

from balepress.errors import BadShares
from balepress.rows import are_whole, is_whole

MOST_BITS = 6
MOST_LENGTH = 12
MOST_THINGS = 300
MOST_COUNT = 1000000


def are_of_things(thing, most):
    if not are_whole(thing, 0, most):
        return False
    return 1 <= len(thing) <= MOST_THINGS and max(thing) > 0


def need_shares(counts, most):
    if not are_of_things(counts, MOST_COUNT):
        raise BadShares("counts are 1 to 300 whole numbers from 0 to 1000000, one of them above 0")
    if not is_whole(most, 1, MOST_LENGTH):
        raise BadShares("the greatest length is a whole number from 1 to 12")
    if len([count for count in counts if count > 0]) > (1 << most):
        raise BadShares("more things come than there are codes of the greatest length")


def weight_of(bundle):
    return bundle[0]


def in_pairs(bundles):
    pairs = []
    # A last one without another would leave half of its room empty: it is left out.
    for place in range(1, len(bundles), 2):
        first = bundles[place - 1]
        second = bundles[place]
        pairs.append((first[0] + second[0], first[1] + second[1]))
    return pairs


def lightest_bundles(singles, most):
    # A thing's length is how often it stands in the bundles told. From the greatest depth up, two bundles take
    # the room of one thing a step above, so they are paired and weighed against the things there.
    bundles = list(singles)
    for step in range(most - 1):
        bundles = sorted(singles + in_pairs(bundles), key=weight_of)
    # One thing alone would need no bit, but a length is 1 at least.
    return bundles[:max(1, 2 * len(singles) - 2)]


def lengths_of(counts, most=6):
    need_shares(counts, most)
    singles = sorted([(count, [place]) for place, count in enumerate(counts) if count > 0], key=weight_of)
    lengths = [0] * len(counts)
    for bundle in lightest_bundles(singles, most):
        for place in bundle[1]:
            lengths[place] = lengths[place] + 1
    return lengths
