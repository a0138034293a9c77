"""Recurrences that lists of fractions keep, and one with the fewest fractions (point 12)."""

from math import lcm

from rowsworn.primes import next_prime
from rowsworn.remainders import inverse, near_fraction

FIRST_PRIME = 2147483647


def over_one_divisor(fractions):
    """Return integers and a divisor: divided by it they are the fractions."""
    divisor = 1
    for _, q in fractions:
        divisor = lcm(divisor, q)
    return [p * (divisor // q) for p, q in fractions], divisor


def list_keeps(fractions, recurrence):
    """Return True if the list of fractions keeps the recurrence, otherwise False."""
    # A list keeps what any multiple of it keeps, so integers do.
    numbers, _ = over_one_divisor(fractions)
    factors, divisor = over_one_divisor(recurrence)
    d = len(factors)
    # The first fraction of a recurrence belongs to the latest value.
    factors = factors[::-1]
    for n in range(len(numbers) - d):
        told = sum([c * x for c, x in zip(factors, numbers[n:n + d])])
        if numbers[n + d] * divisor != told:
            return False
    return True


def find_recurrence(fractions):
    """Return a recurrence with the fewest fractions that the list of fractions keeps."""
    # Exact reckoning meets numbers far longer than those of the answer. So the answer is
    # sought modulo a power of a prime, and then proved. All but finitely many primes lead
    # to it, if the power is large enough.
    prime = FIRST_PRIME
    squarings = 2
    found = _proved_recurrence(fractions, prime, squarings)
    while found is None:
        prime = next_prime(prime)
        squarings += 1
        found = _proved_recurrence(fractions, prime, squarings)
    return found


def _proved_recurrence(fractions, prime, squarings):
    """Return a recurrence with the fewest fractions that the list keeps, or None.

    It is sought modulo the prime squared so many times. None: nothing was proved there.
    """
    modulus = prime
    for _ in range(squarings):
        modulus = modulus * modulus
    numbers, _ = over_one_divisor(fractions)
    relations = _relations([x % modulus for x in numbers], prime, modulus)
    if relations is None:
        return None
    last, earlier, place = relations
    recurrence = _recurrence_of(last, modulus)
    if not list_keeps(fractions, recurrence):
        return None
    # Modulo the prime, the table of that order has then a determinant that is not 0, so it
    # is not 0 at all, and fewer fractions do not suffice.
    if 2 * len(recurrence) <= len(fractions):
        return recurrence
    # A recurrence of d fractions that the items below the place keep, but not with the one
    # at the place, proves that all these need place + 1 - d fractions: as many as these are.
    short = _recurrence_of(earlier, modulus)
    if list_keeps(fractions[:place], short) and not list_keeps(fractions[:place + 1], short):
        return recurrence
    return None


def _recurrence_of(relation, modulus):
    return tuple([near_fraction(-c, modulus) for c in relation[1:]])


def _relations(numbers, prime, modulus):
    """Return the last relation of the numbers, the one before it was made longer, and where.

    A relation is a list that begins with 1; at each place from its length less 1 on, its
    items times the numbers there and backwards make 0 modulo the modulus, a power of the
    prime. The relations are as short as they can be (Berlekamp and Massey). None: a number
    that is not 0 and has no inverse came up.
    """
    last, earlier, place, turn = [1], [1], -1, 1
    for n in range(len(numbers)):
        order = len(last) - 1
        latest = numbers[n - order:n + 1]
        off = sum([c * x for c, x in zip(last, latest[::-1])]) % modulus
        if off == 0:
            continue
        if off % prime == 0:
            return None
        longer = max(order, n + 1 - order)
        share = off * turn % modulus
        mended = _mended(last, earlier, n - place, longer + 1, share, modulus)
        if longer > order:
            earlier, place, turn = last, n, inverse(off, modulus)
        last = mended
    return last, earlier, place


def _mended(last, earlier, behind, size, share, modulus):
    """Return the last relation less the share of the earlier one, which is moved behind."""
    kept = last + [0] * (size - len(last))
    moved = [0] * behind + earlier
    moved = moved + [0] * (size - len(moved))
    return [(c - share * b) % modulus for c, b in zip(kept, moved)]
