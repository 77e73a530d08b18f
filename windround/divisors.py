"""Common divisors and multiples of whole numbers, and fractions in lowest terms."""


def greatest_divisor(one, other):
    """The greatest number that divides both."""
    while other != 0:
        rest = one % other
        one = other
        other = rest
    return one


def divisor_and_factor(one, other):
    """The greatest common divisor, and how many times the one is that divisor, but for a multiple of the other."""
    ahead = (one, 1)
    here = (other, 0)
    while here[0] != 0:
        many = ahead[0] // here[0]
        rest = (ahead[0] - many * here[0], ahead[1] - many * here[1])
        ahead = here
        here = rest
    return ahead


def least_multiple(numbers):
    """The least number from 1 on that all of these numbers from 1 on divide."""
    found = 1
    for number in numbers:
        found = found // greatest_divisor(found, number) * number
    return found


def lowest_terms(above, below):
    """A fraction in lowest terms, of a number above from 0 on and one below from 1 on."""
    divisor = greatest_divisor(above, below)
    return (above // divisor, below // divisor)
