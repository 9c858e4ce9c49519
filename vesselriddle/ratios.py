"""Fractions, each a pair of whole numbers: what's above and what's below.

Every fraction that is handed in or given back is in lowest terms, with what's below more than 0.
"""

NOTHING = (0, 1)

# Fractions may come to have thousands of digits; what is longer than LONG bits is measured by leaps, which
# look at two half windows of leading bits: so LONG must be more than these.
HALF_WINDOW = 120
LONG = 480


def leap(larger, smaller):
    """Many of Euclid's steps at once, for two long numbers.

    The steps are found on the leading bits alone, so they may differ from those of the whole numbers. That does no
    harm: to take a multiple of the one from the other leaves their common measures as they are, whatever multiple it
    is. They end at half of the leading bits, so what the bits behind add stays small, and the numbers get smaller.
    Each row holds leading bits, and how often the larger and the smaller number are in them.
    """
    shift = larger.bit_length() - 2 * HALF_WINDOW
    first = (larger >> shift, 1, 0)
    second = (smaller >> shift, 0, 1)
    while second[0].bit_length() > HALF_WINDOW:
        quotient = first[0] // second[0]
        third = (first[0] - quotient * second[0], first[1] - quotient * second[1], first[2] - quotient * second[2])
        first = second
        second = third
    return (abs(first[1] * larger + first[2] * smaller), abs(second[1] * larger + second[2] * smaller))


def common_measure(a, b):
    """The greatest number that measures both a and b, which are not below 0."""
    while b > 0:
        rest = a % b
        a = b
        b = rest
        if b.bit_length() > LONG:
            pair = leap(a, b)
            a = pair[0]
            b = pair[1]
    return a


def lowest(above, below):
    measure = common_measure(above, below)
    return (above // measure, below // measure)


def plus(x, y):
    return lowest(x[0] * y[1] + y[0] * x[1], x[1] * y[1])


def minus(x, y):
    """The difference; y is at most x."""
    return plus(x, (-y[0], y[1]))


def times(x, y):
    """The product; each above is measured against the other's below, as these are shorter than their products."""
    first = common_measure(x[0], y[1])
    second = common_measure(y[0], x[1])
    return ((x[0] // first) * (y[0] // second), (x[1] // second) * (y[1] // first))


def over(x, y):
    """The quotient; y is more than 0."""
    return times(x, (y[1], y[0]))


def is_more(x, y):
    return x[0] * y[1] > y[0] * x[1]


def lesser(x, y):
    if is_more(x, y):
        return y
    return x
