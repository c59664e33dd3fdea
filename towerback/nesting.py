"""What stands in tuples of tuples of integers: the greatest integer, the longest tuple."""


def integers_within(value):
    """Return the list of all integers in tuples of tuples."""
    waiting = [value]
    found = []
    while waiting:
        part = waiting.pop()
        if isinstance(part, tuple):
            waiting.extend(part)
        else:
            found.append(part)
    return found


def greatest_within(value):
    """Return the greatest size of an integer in tuples of tuples, 0 if there is none."""
    return max([abs(number) for number in integers_within(value)], default=0)


def longest_within(value):
    """Return how many items the longest tuple in tuples of tuples has."""
    if not isinstance(value, tuple):
        return 0
    return max([len(value)] + [longest_within(part) for part in value])
