"""Strides through rows of integers, modulo a number.

A row that keeps a recurrence of d integers has at the place n + k the sum of d shares times
its values at k, k + 1 .. k + d - 1. The shares depend on n and on the recurrence alone, so
the same ones do for each k. They are the stride of n places, and those d values are the
window at k.
"""


class Strides:
    """The strides that belong to a recurrence of integers, modulo m."""

    def __init__(self, factors, m):
        self.m = m
        # As in a window, the one that belongs to the latest value is the last.
        self._factors = [c % m for c in factors[::-1]]

    def stride(self, n):
        """Return the stride of n places."""
        found = self._none()
        for at in reversed(range(n.bit_length())):
            found = self.joined(found, found)
            if (n >> at) & 1 == 1:
                # All shares move to the place behind theirs.
                found = self._within_window([0, *found])
        return found

    def joined(self, one, other):
        """Return the stride that two strides make one after the other."""
        d = len(one)
        shares = [0] * (2 * d)
        for at, x in enumerate(one):
            shares[at:at + d] = [z + x * y for z, y in zip(shares[at:at + d], other)]
        return self._within_window(shares)

    def repeated(self, stride, many):
        """Return the stride that is as many times the stride."""
        found = self._none()
        for at in reversed(range(many.bit_length())):
            found = self.joined(found, found)
            if (many >> at) & 1 == 1:
                found = self.joined(found, stride)
        return found

    def taken(self, window, stride):
        """Return the window to which the stride leads, a tuple."""
        d = len(self._factors)
        reached = self.run(window, 2 * d - 1)
        return tuple([sum([x * y for x, y in zip(stride, reached[at:])]) % self.m for at in range(d)])

    def run(self, window, count):
        """Return the list of the values at the window's first place and on, as many as count."""
        d = len(self._factors)
        found = [x % self.m for x in window[:count]]
        while len(found) < count:
            latest = found[len(found) - d:]
            found.append(sum([c * x for c, x in zip(self._factors, latest)]) % self.m)
        return found

    def _none(self):
        d = len(self._factors)
        return [1 % self.m, *[0] * d][:d]

    def _within_window(self, shares):
        """Return the shares after those behind the window went to the places before them."""
        d = len(self._factors)
        while len(shares) > d:
            last = shares.pop() % self.m
            at = len(shares) - d
            shares[at:] = [x + last * c for x, c in zip(shares[at:], self._factors)]
        return [x % self.m for x in shares]
