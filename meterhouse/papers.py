"""Papers: what they rise to, when they hold, and the clash of two."""

from meterhouse.errors import NoClash
from meterhouse.stamps import mix, stamp, stamp_pairs


def way_pairs(place, leaf, way):
    pairs = []
    now = leaf
    for beside in way:
        pair = (now, beside) if place % 2 == 0 else (beside, now)
        pairs.append(pair)
        now = mix(pair[0], pair[1])
        place = place // 2
    return pairs


def mixed(pair):
    return mix(pair[0], pair[1])


def risen(place, leaf, way):
    pairs = way_pairs(place, leaf, way)
    if len(pairs) == 0:
        return leaf
    return mixed(pairs[-1])


# A place that is not used up by the way would be another place's paper in disguise.
def place_fits(paper):
    return paper[0] >= 0 and paper[0] >> len(paper[2]) == 0


def holds(paper, top):
    return place_fits(paper) and risen(paper[0], stamp(paper[1]), paper[2]) == top


def pairs_from_the_top(paper):
    pairs = stamp_pairs(paper[1]) + way_pairs(paper[0], stamp(paper[1]), paper[2])
    return list(reversed(pairs))


def comparable(one, other):
    if one[0] != other[0] or len(one[2]) != len(other[2]):
        return False
    return one[1] != other[1] and place_fits(one)


# Unlike numbers give unlike pairs somewhere: of unlike counts in the last mix at the
# latest, of the same count at the last number that differs at the latest.
def clash(one, other):
    if not comparable(one, other):
        raise NoClash("the two papers are not of one place with unlike numbers")
    first = pairs_from_the_top(one)
    second = pairs_from_the_top(other)
    if mixed(first[0]) != mixed(second[0]):
        raise NoClash("the two papers rise to unlike stamps")
    unlike = [(pair, beside) for pair, beside in zip(first, second) if pair != beside]
    return unlike[0]
