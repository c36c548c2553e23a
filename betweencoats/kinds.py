"""What kind of thing a value is: what several files ask of numbers and tuples."""


def is_number(thing):
    """Whether any value is a number."""
    return isinstance(thing, int) and not isinstance(thing, bool)


def are_numbers(thing):
    """Whether any value is a tuple of numbers."""
    return isinstance(thing, tuple) and all([is_number(part) for part in thing])


def is_pair(thing):
    """Whether any value is a pair of numbers."""
    return are_numbers(thing) and len(thing) == 2


def climb_fault(numbers, many):
    """The first index whose number is not 0 to many - 1 or not above the one before it, or None."""
    for at, number in enumerate(numbers):
        if not 0 <= number < many:
            return at
        if at > 0 and number <= numbers[at - 1]:
            return at
    return None
