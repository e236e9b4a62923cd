"""Boughs that come again told once: the least net of a tree, and where two nets part."""

from upwords.nets import sizes_of
from upwords.orders import many_alike
from upwords.trees import beneath_of


class Folding:
    # Boughs are alike just where their letters and the knots beneath are,
    # so each such pair is numbered once, as it comes first.

    def __init__(self):
        self.known = {}

    def knot_for(self, letter, beneath):
        return self.known.setdefault((letter, beneath), len(self.known))

    def told_knots(self):
        return tuple(self.known)


def fold_tree(folding, tree):
    numbers = [None] * len(tree[1])
    for place in range(len(tree[1]) - 1, -1, -1):
        beneath = tuple([numbers[lower] for lower in beneath_of(tree, place)])
        numbers[place] = folding.knot_for(tree[1][place], beneath)
    return numbers


def folded_net(tree):
    folding = Folding()
    fold_tree(folding, tree)
    return folding.told_knots()


def knots_of(tree):
    return fold_tree(Folding(), tree)


def fold_net(folding, net):
    numbers = [None] * len(net)
    # The knots are met as their places are from the last one to the root:
    # those beneath ahead of a knot, the last of them first.
    waiting = [len(net) - 1]
    while waiting:
        number = waiting.pop()
        missing = [lower for lower in net[number][1] if numbers[lower] is None]
        if missing:
            waiting.append(number)
            waiting.extend(missing)
        else:
            beneath = tuple([numbers[lower] for lower in net[number][1]])
            numbers[number] = folding.knot_for(net[number][0], beneath)
    return numbers[-1]


def folded_anew(net):
    folding = Folding()
    fold_net(folding, net)
    return folding.told_knots()


def parted_at(one, other):
    folding = Folding()
    here = fold_net(folding, one)
    there = fold_net(folding, other)
    if here == there:
        return None
    return parted_within(folding.told_knots(), here, there)


def parted_within(knots, here, there):
    sizes = sizes_of(knots)
    place = 0
    # All ahead of the place is alike; what the two unlike knots unfold to begins there.
    while knots[here][0] == knots[there][0]:
        beneath = knots[here][1]
        others = knots[there][1]
        alike = many_alike(beneath, others)
        place += 1 + sum([sizes[lower] for lower in beneath[:alike]])
        # The further places of the longer one stand in the other tree above, or not at all.
        if alike == min(len(beneath), len(others)):
            break
        here = beneath[alike]
        there = others[alike]
    return place
