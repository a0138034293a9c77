"""How whole rows come round modulo a number (point 11)."""

from rowsworn.primes import least_prime_of, primes_up_to, without
from rowsworn.strides import Strides
from rowsworn.whole import whole_numbers

SMALL = 20000


def period(e, m):
    """Return the period of the row modulo m."""
    factors, first = whole_numbers(e)
    strides = Strides(factors, m)
    # Modulo the power k of a prime, a row that keeps d integers is the sum of one that comes
    # round from the start and one that is 0 behind d * k places; m has more binary digits
    # than k tells.
    settled = len(factors) * m.bit_length()
    window = strides.taken(first, strides.stride(settled))
    length, round_trip = 1, strides.stride(1)
    for part in _parts(m):
        many = _least_many(Strides(factors, part), window, round_trip)
        length = length * many
        round_trip = strides.repeated(round_trip, many)
    return (_least_ahead(strides, first, round_trip, settled), length)


def _parts(m):
    """Return divisors of m, so that a row that comes round modulo each does modulo m.

    Behind each p ** k there is p ** (k + 1), if it divides m: the fewer rounds are new
    modulo a part, the sooner they are found.
    """
    primes, rest = primes_up_to(SMALL, m)
    parts = []
    for prime in primes:
        part = prime
        while m % part == 0:
            parts.append(part)
            part = part * prime
    return [*parts, rest]


def _least_many(strides, window, stride):
    """Return how many times the stride, above 0, first lead back to the window."""
    m = strides.m
    start = tuple([x % m for x in window])
    reduced = [x % m for x in stride]
    room = 1
    found = _least_many_within(strides, start, reduced, room)
    while found is None:
        room = 2 * room
        found = _least_many_within(strides, start, reduced, room)
    return found


def _least_many_within(strides, start, stride, room):
    """Return what _least_many does if it is at most the square of room, otherwise None."""
    # Small steps to as many places as room, then large ones, each as long as all of these,
    # until one hits a place that a small step met (Shanks).
    met = {}
    here = start
    for many in range(room):
        if here in met:
            return many
        met[here] = many
        here = strides.taken(here, stride)
    leap = strides.repeated(stride, room)
    for leaps in range(1, room + 1):
        if here in met:
            return leaps * room - met[here]
        here = strides.taken(here, leap)
    return None


def _least_ahead(strides, first, round_trip, settled):
    """Return the least place from which on the row comes round; it does so from settled on."""
    here = strides.run(first, settled)
    there = strides.run(strides.taken(first, round_trip), settled)
    ahead = settled
    while ahead > 0 and here[ahead - 1] == there[ahead - 1]:
        ahead -= 1
    return ahead


def period_holds(e, m, ahead, length):
    """Return True if the pair is the period of the row modulo m, otherwise False."""
    factors, first = whole_numbers(e)
    if ahead < 0 or length < 1:
        return False
    strides = Strides(factors, m)
    round_trip = strides.stride(length)
    window = strides.taken(first, strides.stride(ahead))
    if strides.taken(window, round_trip) != window:
        return False
    if ahead > 0:
        # If a lesser number of places would do with some length, it would with this one.
        before = strides.taken(first, strides.stride(ahead - 1))
        if strides.taken(before, round_trip) == before:
            return False
    return _is_least(strides, window, length)


def _is_least(strides, window, length):
    """Return True if no part of the length, with which the window comes back, brings it back."""
    primes, rest = primes_up_to(SMALL, length)
    while rest > 1:
        # If the rest can be left out, its primes, which may be hard to find, do not matter.
        if strides.taken(window, strides.stride(length // rest)) == window:
            return False
        prime = least_prime_of(rest, SMALL + 1)
        primes.append(prime)
        rest = without(prime, rest)
    shared = strides.stride(length // _product_of(primes))
    return _none_can_be_left_out(strides, window, shared, primes)


def _none_can_be_left_out(strides, window, shared, primes):
    """Return True if the shared stride times all primes but any one leads away from the window."""
    if not primes:
        return True
    if len(primes) == 1:
        return strides.taken(window, shared) != window
    # By halves, what many primes have in common is gone through once.
    half = len(primes) // 2
    left, right = primes[:half], primes[half:]
    with_left = strides.repeated(shared, _product_of(left))
    with_right = strides.repeated(shared, _product_of(right))
    return (_none_can_be_left_out(strides, window, with_right, left)
            and _none_can_be_left_out(strides, window, with_left, right))


def _product_of(numbers):
    found = 1
    for n in numbers:
        found = found * n
    return found
