"""Root sums: sums over all roots of a line of each root times a logarithm, and their derivatives."""

from towerback.errors import ByNought, InvalidSums
from towerback.forms import has_line_form, has_number_form, is_given_number, is_pair
from towerback.needs import need_number
from towerback.rawroots import field_with
from towerback.rawsums import derived_sums, joined_sums, scaled_sum
from towerback.rawtowers import tower_field
from towerback.rootlifts import is_plain_root_line, is_root_line
from towerback.towers import need_tower

MOST_SUMS = 16


def is_given_sum(tower, value):
    """Tell whether any value is a root sum of a tower, as it can be handed in."""
    if not is_pair(value) or not is_root_line(value[0]) or value[1] == ():
        return False
    return is_given_number(field_with(tower_field(tower), value[0]), value[1])


def has_sum_form(tower, value):
    """Tell whether any value is a root sum of a tower, of any size."""
    if not is_pair(value) or not has_line_form(0, value[0]) or not is_plain_root_line(value[0]) or value[1] == ():
        return False
    return has_number_form(field_with(tower_field(tower), value[0]), value[1])


def are_root_sums(tower, value):
    """Tell whether any value is a tuple of root sums of a tower, of any size, however many they are."""
    return isinstance(value, tuple) and all(has_sum_form(tower, root_sum) for root_sum in value)


def have_sums_form(tower, value):
    """Tell whether any value is a tuple of root sums of a tower, of any size, and not too many."""
    return are_root_sums(tower, value) and len(value) <= MOST_SUMS


def need_sums(tower, value):
    """Raise InvalidSums for what is no tuple of root sums of a tower."""
    if not isinstance(value, tuple) or len(value) > MOST_SUMS:
        raise InvalidSums("this is no tuple of root sums, or a too long one")
    if not all(is_given_sum(tower, root_sum) for root_sum in value):
        raise InvalidSums("these are no root sums of the tower")


def is_root_sum(tower, value):
    """Tell whether any value is a root sum of a tower."""
    need_tower(tower)
    return is_given_sum(tower, value)


def sums_derived(tower, sums):
    """Return the sum of the derivatives of root sums."""
    need_tower(tower)
    need_sums(tower, sums)
    return derived_sums(tower, sums)


def sums_times(tower, sums, number):
    """Return the tuple of root sums, each times a fraction."""
    need_tower(tower)
    need_sums(tower, sums)
    need_number(0, number)
    if number == (0, 1):
        raise ByNought("root sums times 0 are none")
    return tuple(scaled_sum(tower, root_sum, number) for root_sum in sums)


def sums_joined(tower, sums):
    """Return root sums ascending, those with the same root line made one, without those that are constant."""
    need_tower(tower)
    need_sums(tower, sums)
    return joined_sums(tower, sums)
