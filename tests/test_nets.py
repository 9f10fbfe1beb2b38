import itertools
import unittest

from calmring.errors import BadNet
from calmring.nets import Net, far_from, line, ring

GREAT = 10 ** 59
FAR_OUT = [-GREAT, -11, -10, -2, -1, 0, 11, 12, 100, 10 ** 9, GREAT, 10 * GREAT - 1]


def every_pair(size):
    return list(itertools.combinations(range(size), 2))


def star(size):
    return [(0, at) for at in range(1, size)]


def far_by_trying(size, ways):
    """How far each machine is from each, by shortening through every machine; None: no way."""
    far = [[0 if a == b else None for b in range(size)] for a in range(size)]
    for a, b in ways:
        far[a][b] = far[b][a] = 1
    for mid, a, b in itertools.product(range(size), repeat=3):
        if far[a][mid] is not None and far[mid][b] is not None:
            through = far[a][mid] + far[mid][b]
            if far[a][b] is None or through < far[a][b]:
                far[a][b] = through
    return far


class NetTest(unittest.TestCase):
    def refused(self, size, ways):
        kept = list(ways)
        with self.assertRaises(BadNet):
            Net(size, ways)
        self.assertEqual(ways, kept)

    def test_sizes_1_to_10(self):
        for size in range(1, 11):
            with self.subTest(size=size):
                net = Net(size, star(size))
                self.assertEqual(net.size, size)
                self.assertEqual(net.ways(), star(size))
                self.assertEqual(net.beside(0), list(range(1, size)))
                for at in range(1, size):
                    self.assertEqual(net.beside(at), [0])

    def test_sizes_that_are_refused(self):
        for size in FAR_OUT:
            with self.subTest(size=size):
                self.refused(size, [])
        for size in (11, 12, 100):
            with self.subTest(size=size):
                self.refused(size, star(size))

    def test_one_machine_without_ways(self):
        net = Net(1, [])
        self.assertEqual(net.beside(0), [])
        self.assertEqual(net.ways(), [])

    def test_all_ways(self):
        net = Net(10, every_pair(10))
        self.assertEqual(net.ways(), every_pair(10))
        for at in range(10):
            self.assertEqual(net.beside(at), [other for other in range(10) if other != at])

    def test_ways_in_any_order_and_direction(self):
        ways = [(0, 1), (0, 2), (1, 3), (2, 3)]
        for order in itertools.permutations(ways):
            for flips in itertools.product([False, True], repeat=4):
                told = [(b, a) if flip else (a, b) for (a, b), flip in zip(order, flips)]
                kept = list(told)
                net = Net(4, told)
                self.assertEqual(told, kept)
                self.assertEqual(net.ways(), ways)
                self.assertEqual([net.beside(at) for at in range(4)], [[1, 2], [0, 3], [0, 3], [1, 2]])

    def test_neighbours_rise_across_lower_and_higher_ones(self):
        net = Net(10, [(9, 5), (5, 0), (5, 7), (3, 5), (5, 1), (5, 8), (2, 5), (6, 5), (5, 4)])
        self.assertEqual(net.beside(5), [0, 1, 2, 3, 4, 6, 7, 8, 9])
        self.assertEqual(net.ways(), [(0, 5), (1, 5), (2, 5), (3, 5), (4, 5), (5, 6), (5, 7), (5, 8), (5, 9)])

    def test_ways_are_tuples(self):
        for way in Net(3, [(2, 1), (1, 0)]).ways():
            self.assertIs(type(way), tuple)
        self.assertIs(type(ring(3).ways()), list)
        self.assertIs(type(ring(3).beside(0)), list)

    def test_a_number_that_is_no_machine(self):
        for wrong in (3, 4, 10, GREAT, -1, -2, -3, -GREAT):
            for way in ((0, wrong), (wrong, 0), (2, wrong), (wrong, wrong)):
                for where in (0, 1, 2):
                    with self.subTest(way=way, where=where):
                        ways = [(0, 1), (1, 2)]
                        ways.insert(where, way)
                        self.refused(3, ways)
        self.refused(1, [(0, 1)])
        self.refused(1, [(0, -1)])

    def test_twice_the_same_machine(self):
        for at in range(3):
            with self.subTest(at=at):
                self.refused(3, [(0, 1), (1, 2), (at, at)])
                self.refused(3, [(at, at), (0, 1), (1, 2)])
        self.refused(1, [(0, 0)])

    def test_a_way_told_twice(self):
        ways = [(0, 1), (2, 1), (2, 3)]
        for a, b in ways:
            for again in ((a, b), (b, a)):
                for where in range(4):
                    with self.subTest(again=again, where=where):
                        told = list(ways)
                        told.insert(where, again)
                        self.refused(4, told)

    def test_machines_that_cannot_be_come_to(self):
        self.refused(2, [])
        self.refused(10, [])
        self.refused(3, [(0, 1)])
        self.refused(3, [(1, 2)])
        self.refused(4, [(0, 1), (2, 3)])
        self.refused(6, [(0, 1), (1, 2), (2, 0), (3, 4), (4, 5), (5, 3)])
        self.refused(10, line(9).ways())
        self.refused(10, every_pair(9))
        self.refused(10, list(itertools.combinations(range(1, 10), 2)))

    def test_every_set_of_ways_of_small_sizes(self):
        for size in range(1, 6):
            pairs = every_pair(size)
            for bits in range(1 << len(pairs)):
                ways = [pair for k, pair in enumerate(pairs) if bits >> k & 1]
                far = far_by_trying(size, ways)
                if None in far[0]:
                    self.refused(size, ways)
                else:
                    net = Net(size, ways)
                    self.assertEqual(net.ways(), ways)
                    for root in range(size):
                        self.assertEqual(far_from(net, root), far[root])

    def test_the_handed_list_is_not_kept(self):
        ways = [(2, 1), (0, 1), (2, 3)]
        net = Net(4, ways)
        self.assertEqual(ways, [(2, 1), (0, 1), (2, 3)])
        ways.clear()
        self.assertEqual(net.ways(), [(0, 1), (1, 2), (2, 3)])
        self.assertEqual(net.beside(1), [0, 2])
        self.assertEqual(far_from(net, 0), [0, 1, 2, 3])

    def test_told_lists_are_the_askers_own(self):
        net = Net(4, [(2, 1), (0, 1), (2, 3)])
        for at in range(4):
            beside = net.beside(at)
            told = list(beside)
            self.assertIsNot(net.beside(at), beside)
            beside.append(9)
            beside[0] = 7
            self.assertEqual(net.beside(at), told)
        ways = net.ways()
        self.assertIsNot(net.ways(), ways)
        ways.clear()
        self.assertEqual(net.ways(), [(0, 1), (1, 2), (2, 3)])
        self.assertEqual(net.beside(1), [0, 2])
        self.assertEqual(far_from(net, 3), [3, 2, 1, 0])


class RingTest(unittest.TestCase):
    def test_rings_of_3_to_10(self):
        for size in range(3, 11):
            with self.subTest(size=size):
                net = ring(size)
                self.assertIsInstance(net, Net)
                self.assertEqual(net.size, size)
                ways = sorted([(at, at + 1) for at in range(size - 1)] + [(0, size - 1)])
                self.assertEqual(net.ways(), ways)
                for at in range(size):
                    self.assertEqual(net.beside(at), sorted([(at - 1) % size, (at + 1) % size]))

    def test_rings_that_are_refused(self):
        for size in FAR_OUT + [1, 2]:
            with self.subTest(size=size):
                with self.assertRaises(BadNet):
                    ring(size)


class LineTest(unittest.TestCase):
    def test_lines_of_1_to_10(self):
        for size in range(1, 11):
            with self.subTest(size=size):
                net = line(size)
                self.assertIsInstance(net, Net)
                self.assertEqual(net.size, size)
                self.assertEqual(net.ways(), [(at, at + 1) for at in range(size - 1)])
                for at in range(size):
                    near = [other for other in (at - 1, at + 1) if 0 <= other < size]
                    self.assertEqual(net.beside(at), near)

    def test_lines_that_are_refused(self):
        for size in FAR_OUT:
            with self.subTest(size=size):
                with self.assertRaises(BadNet):
                    line(size)


class FarFromTest(unittest.TestCase):
    def test_on_a_line(self):
        for size in range(1, 11):
            for root in range(size):
                self.assertEqual(far_from(line(size), root), [abs(at - root) for at in range(size)])

    def test_on_a_ring(self):
        for size in range(3, 11):
            for root in range(size):
                far = [min((at - root) % size, (root - at) % size) for at in range(size)]
                self.assertEqual(far_from(ring(size), root), far)

    def test_on_a_net_with_all_ways(self):
        net = Net(10, every_pair(10))
        for root in range(10):
            self.assertEqual(far_from(net, root), [0 if at == root else 1 for at in range(10)])

    def test_on_a_net_with_many_ways(self):
        ways = [(9, 0), (0, 4), (4, 9), (4, 7), (7, 2), (2, 8), (8, 1), (1, 7), (2, 3), (3, 5), (5, 6), (8, 5)]
        net = Net(10, ways)
        far = far_by_trying(10, ways)
        for root in range(10):
            self.assertEqual(far_from(net, root), far[root])
        self.assertEqual(far_from(net, 0), [0, 3, 3, 4, 1, 5, 6, 2, 4, 1])

    def test_of_one_machine(self):
        self.assertEqual(far_from(Net(1, []), 0), [0])

    def test_a_new_list_each_time(self):
        net = ring(5)
        first = far_from(net, 2)
        self.assertIsNot(far_from(net, 2), first)
        first[0] = 99
        first.append(7)
        self.assertEqual(far_from(net, 2), [2, 1, 0, 1, 2])
        self.assertEqual(net.ways(), ring(5).ways())
        self.assertEqual([net.beside(at) for at in range(5)], [ring(5).beside(at) for at in range(5)])


if __name__ == "__main__":
    unittest.main()
