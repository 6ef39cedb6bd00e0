"""Sets of integers from 0 on as integers: the bit n tells whether n is in the set.

Such sets are put together at once, however many members they have.
"""


def full(many):
    """The set of all below this number."""
    return (1 << many) - 1


def low(bits, many):
    """The members below this number."""
    return bits & full(many)


def tiled(pattern, width, many):
    """The members below `many` of the set in which a pattern of this width comes again and again."""
    while width < many:
        pattern = pattern | pattern << width
        width = width * 2
    return low(pattern, many)


def positions(bits):
    """The ascending list of the members."""
    figures = f"{bits:b}"
    return [at for at, figure in enumerate(figures[::-1]) if figure == "1"]


def common_width(one, other):
    """The least common multiple of two widths."""
    left, right = one, other
    while right > 0:
        left, right = right, left % right
    return one * other // left


def primes_of(number):
    """The primes by which a number can be divided."""
    found = []
    prime = 2
    while number > 1:
        if number % prime == 0:
            found.append(prime)
        while number % prime == 0:
            number = number // prime
        prime += 1
    return found


def least_width(pattern, width):
    """The least width with which the same pattern comes again and again as with this one."""
    for prime in primes_of(width):
        shorter = width // prime
        while width % prime == 0 and pattern >> shorter == low(pattern, width - shorter):
            pattern = low(pattern, shorter)
            width = shorter
            shorter = width // prime
    return width
