"""Shops: groups of checks, and the things and letters that come of them."""

from spoilorder.errors import BadShop, NoCheck
from spoilorder.forms import ascends, is_integer, is_name, is_row

MOST_GROUPS = 3
MOST_CHECKS = 5
MOST_CHECKS_OF_GROUP = 4
LAST_EDITION = 9
LAST_EVENT = 29


class Shop:
    """Groups of checks; equal to a shop with the same groups."""

    def __init__(self, groups):
        if not _are_groups(groups):
            raise BadShop(groups)
        self._groups = groups
        self._homes = {check: group for group, checks in groups for check in checks}
        self._checks = tuple(sorted(list(self._homes)))

    def __eq__(self, other):
        return isinstance(other, Shop) and self._groups == other._groups

    @property
    def groups(self):
        """The groups, as they were passed."""
        return self._groups

    @property
    def checks(self):
        """The checks of all groups, ascending."""
        return self._checks

    def group_of(self, check):
        """The group in which the check stands."""
        # Looked up in the tuple first: any value can be asked for, and a list is no key of a dict.
        if check not in self._checks:
            raise NoCheck(check)
        return self._homes[check]

    def is_item(self, value):
        """Whether the value is (check, edition)."""
        return is_row(value, 2, 2) and value[0] in self._checks and is_integer(value[1], 1, LAST_EDITION)

    def is_thing(self, value):
        """Whether the value is an item or an opening."""
        return self.is_item(value) or self._is_opening(value)

    def is_letter(self, value):
        """Whether the value is something that can come on a worker."""
        if not is_row(value, 2, 2):
            return False
        if value[0] in ("pass", "fail"):
            return self.is_thing(value[1])
        if value[0] == "close":
            return self._is_group(value[1])
        return value[0] in ("cut", "gap") and is_integer(value[1], 0, LAST_EVENT)

    def _is_group(self, value):
        return value in [part[0] for part in self._groups]

    def _is_opening(self, value):
        return is_row(value, 2, 2) and self._is_group(value[0]) and is_integer(value[1], 0, 0)


def _are_groups(value):
    """Whether the value can be the groups of a shop."""
    if not is_row(value, 1, MOST_GROUPS) or not all([_is_group_row(part) for part in value]):
        return False
    checks = [check for part in value for check in part[1]]
    names = [part[0] for part in value] + checks
    return ascends(value) and len(checks) <= MOST_CHECKS and len(set(names)) == len(names)


def _is_group_row(value):
    return is_row(value, 2, 2) and is_name(value[0]) and _are_checks(value[1])


def _are_checks(value):
    if not is_row(value, 1, MOST_CHECKS_OF_GROUP) or not all([is_name(check) for check in value]):
        return False
    return ascends(value)
