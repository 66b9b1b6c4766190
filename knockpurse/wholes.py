"""What the other modules share: which things are whole numbers, which are alike, and how many choices there are."""

LAST_BEAT = 1000000


def is_whole(thing):
    """Whether a thing of whatever kind is a whole number."""
    # Python takes True and False for numbers too.
    return isinstance(thing, int) and not isinstance(thing, bool)


def whole_in(thing, least, most):
    """Whether a thing of whatever kind is a whole number from least to most."""
    return is_whole(thing) and least <= thing <= most


def wholes_in(thing, bounds):
    """Whether a thing of whatever kind is a tuple of whole numbers, one within each (least, most)."""
    if not isinstance(thing, tuple) or len(thing) != len(bounds):
        return False
    return all([whole_in(number, least, most) for number, (least, most) in zip(thing, bounds)])


def same(thing, wanted):
    """Whether a thing of whatever kind is just the wanted one, of tuples, texts, whole numbers and None."""
    if isinstance(wanted, tuple):
        if not isinstance(thing, tuple) or len(thing) != len(wanted):
            return False
        return all([same(part, wanted_part) for part, wanted_part in zip(thing, wanted)])
    # To Python True is like 1, so it must be told apart.
    return thing == wanted and not isinstance(thing, bool)


def choices(n, k):
    """In how many ways k of n things can be chosen, 0 where there are not so many."""
    if k < 0 or k > n:
        return 0
    many = 1
    for at in range(min(k, n - k)):
        # So far many is choices(n, at): the division leaves no rest.
        many = many * (n - at) // (at + 1)
    return many
