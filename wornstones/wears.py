"""Wears: which signs can come to which ones, and in how many steps."""

from wornstones.errors import BadWear
from wornstones.kinds import SIGNS, WORN_SIGNS, is_sign, is_worn
from wornstones.kinds import need_seen, need_sign, need_worn

MOST_PAIRS = 20


def is_wear(thing):
    """Whether it is a wear; it may be any object."""
    if not isinstance(thing, tuple) or len(thing) > MOST_PAIRS:
        return False
    # Only pairs of strings are compared: other objects need not have an order.
    if not all([is_pair(pair) for pair in thing]):
        return False
    return all([one < other for one, other in zip(thing, thing[1:])])


def is_pair(thing):
    """Whether it is a tuple (one, other) as it stands in a wear."""
    if not isinstance(thing, tuple) or len(thing) != 2:
        return False
    one, other = thing
    return is_sign(one) and is_worn(other) and one != other


def need_wear(thing):
    """Raise BadWear for what is no wear."""
    if not is_wear(thing):
        raise BadWear("a wear is an ascending tuple of at most 20 tuples of two signs")


def steps_from(wear, one):
    """A dict of the worn signs to which one can come, with the least steps to each."""
    found = {one: 0}
    wave = [one]
    while wave:
        behind = []
        for sign in list(wave):
            for first, worn in wear:
                if first == sign and worn not in found:
                    found[worn] = found[sign] + 1
                    behind.append(worn)
        wave = behind
    return found


def all_steps(wear):
    """A dict with what steps_from tells, for each worn sign."""
    return {one: steps_from(wear, one) for one in WORN_SIGNS}


def steps(wear, one, other):
    """The least number of steps in which one can come to other, or None."""
    need_wear(wear)
    need_worn(one)
    need_seen(other)
    if other == "?":
        return 0
    return steps_from(wear, one).get(other)


def comes_to(wear, sign):
    """The worn signs to which a worn sign can come, ascending, itself among them."""
    need_wear(wear)
    need_worn(sign)
    return tuple(sorted(steps_from(wear, sign)))


def comes_from(wear, seen):
    """The letters that can come to a seen sign, ascending."""
    need_wear(wear)
    need_seen(seen)
    if seen == "?":
        return SIGNS
    return tuple([sign for sign in SIGNS if seen in steps_from(wear, sign)])


def common(wear, one, other):
    """The least sum of steps to one worn sign, and the least such sign, or None."""
    need_wear(wear)
    need_sign(one)
    need_sign(other)
    return least_common(steps_from(wear, one), steps_from(wear, other))


def least_common(first, second):
    """What common tells, by what steps_from tells for each of the two signs."""
    sums = [(first[worn] + second[worn], worn) for worn in first if worn in second]
    return min(sums, default=None)


def wears_apart(wear, other):
    """The least (sign, worn) for which two wears tell other steps, or None."""
    need_wear(wear)
    need_wear(other)
    # A dot and a question mark tell nothing: their steps are alike by all wears.
    for sign in SIGNS:
        first = steps_from(wear, sign)
        second = steps_from(other, sign)
        for worn in WORN_SIGNS:
            if first.get(worn) != second.get(worn):
                return (sign, worn)
    return None


def cut_deeper(wear, sign):
    """The wear without the tuples in which this sign stands first."""
    need_wear(wear)
    need_sign(sign)
    return tuple([pair for pair in wear if pair[0] != sign])


def classes(wear):
    """The list of the tuples of signs that can come each to each of the others."""
    need_wear(wear)
    found = all_steps(wear)
    groups = []
    for sign in SIGNS:
        group = [other for other in SIGNS if other in found[sign] and sign in found[other]]
        # The least sign of a class stands for it, so that each one is told once.
        if group[0] == sign:
            groups.append(tuple(group))
    return groups
