"""Prime numbers, and the primes that divide a number."""

from math import isqrt

# Fermat's test, sharpened by Miller and Rabin, with these is a proof for the numbers below
# (Sorenson and Webster, 2015).
WITNESSES = (2, 3, 5, 7, 11, 13, 17, 19, 23, 29, 31, 37, 41)
PROVED_BELOW = 3317044064679887385961981


def next_prime(n):
    """Return the least prime above n."""
    found = max(n, 1) + 1
    while least_prime_of(found, 2) != found:
        found += 1
    return found


def primes_up_to(limit, n):
    """Return the primes that divide n, up to the limit, and n without them; n is above 0."""
    found = []
    for divisor in range(2, limit + 1):
        if divisor * divisor > n:
            break
        if n % divisor == 0:
            found.append(divisor)
            n = without(divisor, n)
    # What has no divisor up to its root is a prime.
    if 1 < n <= limit:
        return [*found, n], 1
    return found, n


def without(divisor, n):
    """Return n divided by the divisor, which is above 1, as often as nothing is left over."""
    while n % divisor == 0:
        n = n // divisor
    return n


def least_prime_of(n, start):
    """Return the least prime that divides n; n is above 1, and no divisor of it above 1 is below start."""
    if n < PROVED_BELOW and _is_prime(n):
        return n
    for divisor in range(start, isqrt(n) + 1):
        if n % divisor == 0:
            return divisor
    return n


def _is_prime(n):
    """Return True if n, which is above 1 and below the number above, is a prime."""
    odd, halvings = n - 1, 0
    while odd % 2 == 0:
        odd = odd // 2
        halvings += 1
    for witness in WITNESSES:
        if n % witness == 0:
            return n == witness
        if not _passes(witness, odd, halvings, n):
            return False
    return True


def _passes(witness, odd, halvings, n):
    power = 1
    for at in reversed(range(odd.bit_length())):
        power = power * power % n
        if (odd >> at) & 1 == 1:
            power = power * witness % n
    if power == 1:
        return True
    for _ in range(halvings):
        if power == n - 1:
            return True
        power = power * power % n
    return False
