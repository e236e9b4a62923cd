"""Nets that the tests ask about, and what they unfold to, gone through place by place."""

import functools
import itertools

from tests.samples import ALL_LETTERS, drawn


def great_net(knots, wide, letters="a"):
    """Each knot so many times beneath the next one."""
    return tuple((letters[k % len(letters)], (k - 1,) * wide if k else ()) for k in range(knots))


def any_net(knots, seed, widest, letters):
    numbers = drawn(seed)
    net = []
    for k in range(knots):
        # The last one leads to as many as may be, so that nets of one place are few.
        many = widest if k == knots - 1 else next(numbers) % (widest + 1)
        net.append((letters[next(numbers) % len(letters)], tuple(next(numbers) % k for part in range(many if k else 0))))
    return tuple(net)


@functools.cache
def small_nets(most, widest):
    """Every net of few knots with the letters a and b."""
    found = []
    for many in range(1, most + 1):
        knots = []
        for k in range(many):
            lower = [part for wide in range(widest + 1) for part in itertools.product(range(k), repeat=wide)]
            knots.append([(letter, part) for letter in "ab" for part in lower])
        found.extend(itertools.product(*knots))
    return found


@functools.cache
def some_nets():
    """Of all sizes, but small enough to be gone through."""
    nets = small_nets(3, 2)[::5] + [
        any_net(knots, seed, widest, letters) for knots in (1, 3, 5, 8, 12, 20, 60) for seed in range(6)
        for widest in (1, 2, 3) for letters in ("a", "ab", ALL_LETTERS)]
    return [net for net in nets if naive_size(net) <= 400]


@functools.cache
def great_nets():
    """Too great to be gone through."""
    return [great_net(60, 60), great_net(60, 2, "ab"), great_net(59, 60, "aab"), great_net(60, 7, ALL_LETTERS),
            any_net(60, 1, 60, "ab"), any_net(60, 2, 60, ALL_LETTERS), any_net(60, 3, 9, "a"), any_net(40, 4, 60, "ab")]


def naive_size(net):
    @functools.cache
    def size(k):
        return 1 + sum(size(lower) for lower in net[k][1])
    return size(len(net) - 1)


@functools.cache
def unfolded(net):
    """(ups, labels, knots): the tree, and of which knot each place comes."""
    ups, labels, knots = [], [], []

    def grow(k, above):
        place = len(ups)
        ups.append(above)
        labels.append(net[k][0])
        knots.append(k)
        for lower in net[k][1]:
            grow(lower, place)

    grow(len(net) - 1, -1)
    return tuple(ups), "".join(labels), tuple(knots)
