"""Root sums of rational functions, brought to one form."""

from towerback.errors import TooMany
from towerback.logarithms import plain_logarithms
from towerback.rawsums import derived_sums
from towerback.residues import HIGHEST_UNDER
from towerback.rootsums import need_sums


def logarithms_of_plain(thing):
    """Return the logarithms of a rational function with a normal under, () for nought; TooMany if it is too long."""
    if not thing[0]:
        return ()
    if len(thing[1]) > HIGHEST_UNDER + 1:
        raise TooMany(HIGHEST_UNDER)
    return plain_logarithms((), thing[0], thing[1])


def plain_sums(sums):
    """Return the plain sums with the derivative of root sums of ()."""
    need_sums((), sums)
    return logarithms_of_plain(derived_sums((), sums))


def are_one(sums, others):
    """Tell whether the derivatives of two tuples of root sums of () are the same."""
    need_sums((), sums)
    need_sums((), others)
    return derived_sums((), sums) == derived_sums((), others)
