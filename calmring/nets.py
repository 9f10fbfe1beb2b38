"""Nets: machines numbered from 0, and the ways between them."""

from calmring.errors import BadNet

LEAST_NET = 1
LEAST_RING = 3
GREATEST_NET = 10


class Net:
    def __init__(self, size, ways):
        refuse_size(size, LEAST_NET)
        self.size = size
        # Tuples, so that no list handed in or told can reach into the net.
        self.pairs = tuple(ordered_pairs(size, ways))
        self.near = tuple([tuple(neighbours(self.pairs, at)) for at in range(size)])
        if max(far_from(self, 0)) == size:
            raise BadNet("not every machine can be come to from machine 0")

    def beside(self, at):
        return list(self.near[at])

    def ways(self):
        return list(self.pairs)


def ring(size):
    refuse_size(size, LEAST_RING)
    return Net(size, [(at, (at + 1) % size) for at in range(size)])


def line(size):
    # Net refuses the size too, but only behind a list that a great size would make endless.
    refuse_size(size, LEAST_NET)
    return Net(size, [(at, at + 1) for at in range(size - 1)])


def far_from(net, root):
    # No machine is as many ways off as there are machines, so the size stands for not yet come to.
    far = [net.size for at in range(net.size)]
    far[root] = 0
    for steps in range(net.size):
        for at in range(net.size):
            if far[at] == steps:
                for other in net.beside(at):
                    far[other] = min(far[other], steps + 1)
    return far


def refuse_size(size, least):
    if size < least or size > GREATEST_NET:
        raise BadNet("the number of machines is out of bounds")


def ordered_pairs(size, ways):
    pairs = []
    for way in ways:
        pair = (min(way), max(way))
        if pair[0] < 0 or pair[1] >= size:
            raise BadNet("a way has a number that is no machine")
        if pair[0] == pair[1]:
            raise BadNet("a way has twice the same machine")
        if pair in pairs:
            raise BadNet("a way is told twice")
        pairs.append(pair)
    return sorted(pairs)


def neighbours(pairs, at):
    lower = [pair[0] for pair in pairs if pair[1] == at]
    higher = [pair[1] for pair in pairs if pair[0] == at]
    return sorted(lower + higher)
