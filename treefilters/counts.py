"""Numbers of trees: exact below MANY, MANY for as many or more, ENDLESS for infinitely many."""

MANY = 1_000_000_000_000_000_000_000_000_000_000_000_000_000_000_000_000_000_000_000_000

# Greater than a hundred times MANY * MANY, and so than every sum of products of two finite numbers here:
# a sum shows by its size whether infinitely many had a share in it.
ENDLESS = 0x1000000000000000000000000000000000000000000000000000000000000000000000000000000000000000000000000000000


def is_endless(number):
    return number > MANY


def capped(total):
    """The number of trees that a sum of products of two such numbers stands for."""
    if total <= MANY:
        return total
    if total < ENDLESS:
        return MANY
    return ENDLESS


def sum_of_products(some, others):
    return capped(sum([one * other for one, other in zip(some, others)]))
