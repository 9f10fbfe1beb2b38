import itertools
import random
import unittest

from calmring.downward import CountRule, DownRule, PaintRule
from calmring.errors import BadTurn, TooGreat
from calmring.growing import GrowRule
from calmring.leasts import FarRule, LeadRule, LeastRule
from calmring.looks import cells_of, look, nexts, number_of, slowest
from calmring.nets import line, ring
from calmring.passing import PassRule
from calmring.rules import Rule
from calmring.tables import TableRule
from promises import GREAT, NINES, check_own, is_whole, mixed, small_nets, star, states, whole

COPY = [left for own, left, right in itertools.product(range(2), repeat=3)]
STAY = [own for own, left, right in itertools.product(range(2), repeat=3)]
FLIP = [1 - own for own in STAY]


def plain_nexts(rule, cells, many):
    """Point 24, word by word."""
    dues = [rule.due(cells, at) for at in range(rule.size)]
    movers = [at for at in range(rule.size) if dues[at] != cells[at]]
    numbers = range(1, 2 ** len(movers)) if many else [2 ** k for k in range(len(movers))]
    found = []
    for number in numbers:
        named = [movers[k] for k in range(len(movers)) if number // 2 ** k % 2 == 1]
        found.append((named, [dues[at] if at in named else cells[at] for at in range(rule.size)]))
    return found


def plain_look(rule, many):
    """Everything that point 26 asks for, by a plain search: all that is so, not the first alone."""
    every = states(rule)
    calm = {tuple(cells): rule.calm(cells) for cells in every}
    follows = {tuple(cells): plain_nexts(rule, cells, many) for cells in every}
    found = {"leaves": None, "stuck": None}
    for cells in reversed(every):
        if calm[tuple(cells)]:
            wild = [named for named, behind in follows[tuple(cells)] if not calm[tuple(behind)]]
            if wild:
                found["leaves"] = ("leaves", cells, wild[0])
        elif not follows[tuple(cells)]:
            found["stuck"] = ("stuck", cells)
    ranks = {}
    found["round"] = any(comes_back(cells, calm, follows) for cells in every)
    if not found["leaves"] and not found["stuck"] and not found["round"]:
        found["calm"] = ("calm", [longest(tuple(cells), calm, follows, ranks) for cells in every])
    return found


def comes_back(cells, calm, follows):
    """Whether a way from the state through states that are not calm comes back to it."""
    if calm[tuple(cells)]:
        return False
    seen, waiting = set(), [tuple(cells)]
    while waiting:
        for named, behind in follows[waiting.pop()]:
            if behind == cells:
                return True
            if not calm[tuple(behind)] and tuple(behind) not in seen:
                seen.add(tuple(behind))
                waiting.append(tuple(behind))
    return False


def longest(state, calm, follows, ranks):
    if state not in ranks:
        behind = [tuple(pair[1]) for pair in follows[state]]
        ranks[state] = 0 if calm[state] else 1 + max(longest(other, calm, follows, ranks) for other in behind)
    return ranks[state]


def check_look(test, rule, many):
    """Holds the looker's answer against the plain search; tells the search's findings."""
    found, told = plain_look(rule, many), look(rule, many)
    test.assertIsInstance(told, tuple)
    if found["leaves"]:
        test.assertEqual(told, found["leaves"])
    elif found["stuck"]:
        test.assertEqual(told, found["stuck"])
    elif found["round"]:
        test.assertEqual((len(told), told[0]), (2, "round"))
        check_round(test, rule, many, told[1])
    else:
        test.assertEqual(told, found["calm"])
        test.assertTrue(all(is_whole(rank) for rank in told[1]))
    return tuple(name for name in ("leaves", "stuck", "round", "calm") if found.get(name))


def check_round(test, rule, many, way):
    test.assertIsInstance(way, list)
    test.assertGreaterEqual(len(way), 2)
    test.assertEqual(way[0], way[-1])
    for cells in way:
        test.assertIsInstance(cells, list)
        test.assertIs(rule.calm(cells), False)
    for ahead, behind in zip(way, way[1:]):
        test.assertIn(behind, [pair[1] for pair in plain_nexts(rule, ahead, many)])


def check_slowest(test, rule, many):
    ranks = look(rule, many)[1]
    kept = list(ranks)
    for number, cells in enumerate(states(rule)):
        way = slowest(rule, ranks, cells, many)
        test.assertEqual(way[0], cells)
        test.assertEqual([ranks[number_of(rule, one)] for one in way], list(range(ranks[number], -1, -1)))
        for ahead, behind in zip(way, way[1:]):
            test.assertIn(behind, [pair[1] for pair in plain_nexts(rule, ahead, many)])
    test.assertEqual(ranks, kept)


def essential_tables():
    """All tables of two machines with two cells, by the four entries that such a ring ever looks up."""
    draw = random.Random(37)
    found = []
    for told in itertools.product(range(2), repeat=8):
        firsts, others = [draw.randrange(2) for entry in range(8)], [draw.randrange(2) for entry in range(8)]
        for place, entry in enumerate((0, 3, 4, 7)):
            firsts[entry], others[entry] = told[place], told[4 + place]
        found.append((firsts, others))
    return found


def drawn_tables(size, span, count, seed):
    """Rules told by tables in which a part of the entries, unlike from rule to rule, leaves the own cell."""
    draw = random.Random(seed)
    own = [entry // span // span for entry in range(span ** 3)]
    found = []
    for turn in range(count):
        still = draw.choice([0, 30, 60, 80])
        firsts, others = [[one if draw.randrange(100) < still else draw.randrange(span) for one in own] for _ in "ab"]
        found.append(TableRule(size, span, draw.choice(["none", "one"]), firsts, others))
    return found


def rising_tables(size, span, count, seed):
    """Tables in which no entry is below the own cell, so that all comes to rest."""
    draw = random.Random(seed)
    own = [entry // span // span for entry in range(span ** 3)]
    found = []
    for turn in range(count):
        firsts, others = [[draw.randrange(one, span) for one in own] for _ in "ab"]
        found.append(TableRule(size, span, "none", firsts, others))
    return found


def pass_table(size):
    """Pass with a span of the size, told by tables."""
    every = list(itertools.product(range(size), repeat=3))
    firsts = [(own + 1) % size if own == left else own for own, left, right in every]
    return TableRule(size, size, "one", firsts, [left for own, left, right in every])


def small_many():
    """Rules that are not alone, of the smallest sizes."""
    rules = [PassRule(2, 2), PassRule(2, 5), PassRule(3, 3), PassRule(3, 4), PassRule(4, 4)]
    rules += [PaintRule(net) for net in small_nets(4)]
    return rules + [CountRule(parents) for parents in ([], [0], [0, 0], [0, 1])]


def small_alone():
    rules = [FarRule(net, root) for net in small_nets(3) for root in range(net.size)]
    rules += [LeadRule(line(1), [name]) for name in (0, 5, 9)]
    rules += [LeastRule(line(2), [0, None], 3, 2), LeastRule(ring(3), [None, 1, None], 2, 2),
              LeastRule(line(3), [None, None, None], 5, 1), LeastRule(star(4), [2, None, 0, None], 1, 3)]
    return rules + [GrowRule(line(1), 0), GrowRule(line(2), 0), GrowRule(line(2), 1)]


class NumbersTest(unittest.TestCase):
    def test_by_hand(self):
        rule = Rule(3, 5, False)
        self.assertEqual(number_of(rule, [1, 2, 3]), (1 * 5 + 2) * 5 + 3)
        self.assertEqual(cells_of(rule, 38), [1, 2, 3])
        self.assertEqual(cells_of(rule, 0), [0, 0, 0])
        self.assertEqual(cells_of(rule, 124), [4, 4, 4])
        self.assertEqual(number_of(Rule(1, 7, True), [6]), 6)
        self.assertEqual(cells_of(Rule(4, 1, True), 0), [0, 0, 0, 0])

    def test_each_is_the_others_way_back(self):
        for rule in (Rule(1, 1, False), Rule(1, 9, True), Rule(3, 4, False), Rule(5, 2, True), PassRule(3, 5),
                     LeadRule(line(2), [1, 2]), GrowRule(line(2), 0), TableRule(4, 2, "one", COPY, COPY)):
            for number, cells in enumerate(states(rule)):
                self.assertEqual(number_of(rule, cells), number)
                self.assertEqual(cells_of(rule, number), cells)

    def test_great_spans(self):
        for size in (2, 3, 20):
            rule = PassRule(size, NINES)
            last = NINES ** size - 1
            self.assertEqual(number_of(rule, [0] * size), 0)
            self.assertEqual(cells_of(rule, 0), [0] * size)
            self.assertEqual(number_of(rule, [NINES - 1] * size), last)
            self.assertEqual(cells_of(rule, last), [NINES - 1] * size)
            cells = [GREAT + at for at in range(size)]
            self.assertEqual(cells_of(rule, number_of(rule, cells)), cells)
            self.assertEqual(number_of(rule, cells_of(rule, last // 7)), last // 7)
        self.assertEqual(number_of(PassRule(2, NINES), [3, 4]), 3 * NINES + 4)

    def test_lists_stay_and_are_the_askers_own(self):
        rule = PassRule(3, 5)
        check_own(self, number_of, rule, [1, 2, 3])
        check_own(self, cells_of, rule, 38)


class NextsTest(unittest.TestCase):
    def test_one_at_a_time(self):
        rule = PassRule(4, 5)
        self.assertEqual(nexts(rule, [2, 0, 0, 2]), [([0], [3, 0, 0, 2]), ([1], [2, 2, 0, 2]), ([3], [2, 0, 0, 0])])
        self.assertEqual(nexts(rule, [2, 0, 0, 2], False), nexts(rule, [2, 0, 0, 2]))
        self.assertEqual(nexts(FarRule(line(3), 0), [3, 3, 0]), [([0], [0, 3, 0]), ([1], [3, 1, 0]), ([2], [3, 3, 3])])

    def test_many_at_once(self):
        rule = PassRule(4, 5)
        self.assertEqual(nexts(rule, [2, 0, 0, 2], True), [
            ([0], [3, 0, 0, 2]), ([1], [2, 2, 0, 2]), ([0, 1], [3, 2, 0, 2]), ([3], [2, 0, 0, 0]),
            ([0, 3], [3, 0, 0, 0]), ([1, 3], [2, 2, 0, 0]), ([0, 1, 3], [3, 2, 0, 0])])
        self.assertEqual(nexts(rule, [2, 2, 0, 0], True), [([2], [2, 2, 2, 0])])

    def test_eight_movers(self):
        rule = TableRule(8, 2, "none", FLIP, FLIP)
        told = nexts(rule, [0] * 8, True)
        self.assertEqual(len(told), 255)
        for number, (named, behind) in enumerate(told, 1):
            self.assertEqual(named, [at for at in range(8) if number >> at & 1])
            self.assertEqual(behind, [number >> at & 1 for at in range(8)])
        self.assertEqual(len(nexts(rule, [0] * 8)), 8)

    def test_of_a_state_with_no_mover(self):
        for many in (False, True):
            self.assertEqual(nexts(PaintRule(line(3)), [0, 1, 0], many), [])
            self.assertEqual(nexts(Rule(3, 3, False), [0, 1, 0], many), [])
            self.assertEqual(nexts(TableRule(3, 2, "one", STAY, STAY), [0, 1, 0], many), [])
        self.assertEqual(nexts(FarRule(line(3), 0), [0, 1, 2]), [])

    def test_every_state_of_small_rules(self):
        for rule in small_many() + small_alone() + drawn_tables(3, 3, 5, 41):
            for many in (False, True)[:1 if rule.alone else 2]:
                for cells in states(rule):
                    self.assertEqual(nexts(rule, cells, many), plain_nexts(rule, cells, many))

    def test_kinds(self):
        for many in (False, True):
            told = nexts(PassRule(3, 4), [0, 1, 2], many)
            self.assertIsInstance(told, list)
            for pair in told:
                self.assertIsInstance(pair, tuple)
                self.assertEqual([type(one) for one in pair], [list, list])

    def test_many_at_once_of_a_rule_that_is_alone(self):
        for rule in small_alone() + [Rule(3, 2, True), LeadRule(mixed(), list(range(10))), GrowRule(mixed(), 2)]:
            for cells in ([0] * rule.size, [rule.span - 1] * rule.size):
                with self.assertRaises(BadTurn):
                    nexts(rule, cells, True)
                nexts(rule, cells)
        with self.assertRaises(BadTurn):
            nexts(FarRule(line(3), 0), [0, 1, 2], True)

    def test_never_refused_as_too_great(self):
        self.assertEqual(nexts(PassRule(20, NINES), [7] * 20), [([0], [8] + [7] * 19)])
        self.assertEqual(nexts(PassRule(20, NINES), [7] * 20, True), [([0], [8] + [7] * 19)])
        self.assertEqual(len(nexts(GrowRule(mixed(), 0), [0] * 10)), 10)

    def test_lists_stay_and_are_the_askers_own(self):
        for many in (False, True):
            for rule, cells in ((PassRule(4, 5), [2, 0, 0, 2]), (PaintRule(line(3)), [0, 1, 0]),
                                (PaintRule(whole(4)), [1, 1, 1, 1])):
                check_own(self, nexts, rule, list(cells), many)

    def test_told_lists_are_not_bound_together(self):
        for many in (False, True):
            told = nexts(PaintRule(whole(4)), [1, 1, 1, 1], many)
            lists = [one for pair in told for one in pair]
            self.assertEqual(len({id(one) for one in lists}), 2 * len(told))


class LookTest(unittest.TestCase):
    def test_every_table_of_two_machines_with_two_cells(self):
        seen = set()
        for firsts, others in essential_tables():
            for word in ("none", "one"):
                rule = TableRule(2, 2, word, firsts, others)
                for many in (False, True):
                    seen.add((check_look(self, rule, many), many))
        for kind in ("leaves", "stuck", "round", "calm"):
            for many in (False, True):
                self.assertTrue([one for one, also in seen if one[0] == kind and also == many], (kind, many))

    def test_drawn_tables_of_three_and_four_machines(self):
        seen = set()
        for size, span, count in ((3, 2, 300), (3, 3, 60), (4, 2, 150), (4, 3, 20)):
            for rule in drawn_tables(size, span, count, size * 10 + span):
                for many in (False, True):
                    seen.add(check_look(self, rule, many))
        # The first that is so is told also where others of them are so.
        for both in (("leaves", "stuck"), ("leaves", "round"), ("stuck", "round")):
            self.assertTrue([one for one in seen if one[:2] == both], both)
        self.assertIn(("leaves", "stuck", "round"), seen)
        self.assertIn(("round",), seen)
        self.assertIn(("calm",), seen)

    def test_tables_that_come_to_rest(self):
        for size, span, count in ((2, 4, 20), (3, 3, 20), (3, 4, 8), (4, 3, 8), (4, 4, 2)):
            for rule in rising_tables(size, span, count, size * 10 + span):
                for many in (False, True):
                    self.assertEqual(check_look(self, rule, many), ("calm",))

    def test_great_tables_one_at_a_time(self):
        for size, span in ((5, 3), (8, 2), (7, 2)):
            for rule in rising_tables(size, span, 2, 43) + drawn_tables(size, span, 2, 47):
                check_look(self, rule, False)

    def test_leaves(self):
        # Machine 0 may where its cell is 0, the other one never.
        rule = TableRule(2, 2, "one", [1] * 8, STAY)
        self.assertEqual(look(rule), ("leaves", [0, 0], [0]))
        self.assertEqual(look(rule, False), ("leaves", [0, 0], [0]))
        self.assertEqual(look(rule, True), ("leaves", [0, 0], [0]))
        # Machine 0 may where its cell is 1 and machine 1's is 1: behind its deed nobody may.
        late = TableRule(2, 2, "one", [0, 0, 0, 0, 1, 1, 1, 0], STAY)
        self.assertEqual(look(late), ("leaves", [1, 1], [0]))

    def test_leaves_ahead_of_stuck(self):
        rule = TableRule(2, 2, "one", [0, 0, 0, 0, 1, 1, 1, 0], STAY)
        self.assertEqual(plain_look(rule, False)["stuck"], ("stuck", [0, 0]))
        self.assertEqual(look(rule)[0], "leaves")

    def test_stuck(self):
        rule = TableRule(3, 2, "one", STAY, STAY)
        for many in (False, True):
            self.assertEqual(look(rule, many), ("stuck", [0, 0, 0]))
        # Both may, but for 1, 1, where nobody may.
        table = [1, 1, 1, 1, 0, 1, 1, 1]
        for many in (False, True):
            self.assertEqual(look(TableRule(2, 2, "one", table, table), many), ("stuck", [1, 1]))

    def test_round(self):
        rule = TableRule(2, 2, "none", FLIP, FLIP)
        for many in (False, True):
            told = look(rule, many)
            self.assertEqual(told[0], "round")
            check_round(self, rule, many, told[1])

    def test_round_for_many_at_once_alone(self):
        # Both copy the other one: one at a time they come to rest, both at once they change places for ever.
        rule = TableRule(2, 2, "none", COPY, COPY)
        self.assertEqual(look(rule), ("calm", [0, 1, 1, 0]))
        told = look(rule, True)
        self.assertEqual(told[0], "round")
        check_round(self, rule, True, told[1])
        self.assertIn(told[1], ([[0, 1], [1, 0], [0, 1]], [[1, 0], [0, 1], [1, 0]]))

    def test_round_of_three_machines(self):
        # Each copies its left one, so that a 1 can go round for ever.
        rule = TableRule(3, 2, "none", COPY, COPY)
        for many in (False, True):
            told = look(rule, many)
            self.assertEqual(told[0], "round")
            check_round(self, rule, many, told[1])

    def test_calm(self):
        # Machine 0 ought to hold 0, each other one what its left one holds.
        rule = TableRule(3, 2, "none", [0] * 8, COPY)
        self.assertEqual(look(rule), ("calm", [0, 1, 3, 2, 5, 6, 4, 3]))
        self.assertEqual(look(Rule(2, 3, False)), ("calm", [0] * 9))
        self.assertEqual(look(Rule(2, 3, False), True), ("calm", [0] * 9))
        self.assertEqual(look(Rule(1, 1, True)), ("calm", [0]))

    def test_pass_told_by_tables(self):
        for size in (2, 3, 4):
            for many in (False, True):
                told = look(pass_table(size), many)
                self.assertEqual(told[0], "calm")
                self.assertEqual(told, look(PassRule(size, size), many))
                self.assertEqual(told, plain_look(PassRule(size, size), many)["calm"])

    def test_rules_of_the_smallest_sizes(self):
        for rule in small_many() + small_alone():
            for many in (False, True)[:1 if rule.alone else 2]:
                told = look(rule, many)
                self.assertEqual((len(told), told[0]), (2, "calm"))
                self.assertEqual(told, plain_look(rule, many)["calm"])
                for rank, cells in zip(told[1], states(rule), strict=True):
                    self.assertLessEqual(rank, rule.measure(cells))
                    self.assertIs(rank == 0, rule.calm(cells))

    def test_many_is_false_where_it_is_not_told(self):
        rule = TableRule(2, 2, "none", COPY, COPY)
        self.assertEqual(look(rule), look(rule, False))
        self.assertEqual(look(rule, many=False), look(rule, False))
        self.assertEqual(look(rule, many=True), look(rule, True))

    def test_told_lists_are_the_askers_own(self):
        for rule in (TableRule(2, 2, "one", [1] * 8, STAY), TableRule(3, 2, "one", STAY, STAY),
                     TableRule(2, 2, "none", FLIP, FLIP), TableRule(3, 2, "none", [0] * 8, COPY)):
            for many in (False, True):
                check_own(self, look, rule, many)

    def test_the_states_of_a_round_are_not_bound_together(self):
        way = look(TableRule(2, 2, "none", FLIP, FLIP))[1]
        self.assertEqual(len({id(cells) for cells in way}), len(way))


class TooGreatTest(unittest.TestCase):
    def test_256_states(self):
        for rule in (Rule(1, 256, False), Rule(2, 16, True), Rule(4, 4, False), Rule(8, 2, True), Rule(300, 1, False)):
            self.assertEqual(look(rule), ("calm", [0] * (rule.span ** rule.size)))
        self.assertEqual(look(PassRule(2, 16))[0], "calm")
        self.assertEqual(look(PassRule(2, 16), True)[0], "calm")

    def test_more_than_256_states(self):
        for rule in (Rule(1, 257, False), Rule(2, 17, True), Rule(9, 2, False), Rule(5, 4, True), PassRule(2, 17),
                     PassRule(4, 5), PassRule(20, NINES), Rule(300, 2, False), Rule(3, GREAT, True), DownRule(2, 17),
                     CountRule([0, 0, 0]), PaintRule(ring(5)), FarRule(line(4), 0), LeadRule(line(2), [1, 2]),
                     Rule(GREAT, 2, False), Rule(NINES, NINES, True), GrowRule(line(3), 0),
                     TableRule(5, 4, "none", [0] * 64, [0] * 64), TableRule(6, 3, "one", [0] * 27, [0] * 27)):
            with self.subTest(rule=type(rule), size=rule.size, span=rule.span):
                with self.assertRaises(TooGreat):
                    look(rule)
                if not rule.alone:
                    with self.assertRaises(TooGreat):
                        look(rule, True)

    def test_four_and_five_machines_for_many_at_once(self):
        self.assertEqual(look(Rule(4, 4, False), True), ("calm", [0] * 256))
        self.assertEqual(look(TableRule(4, 2, "none", STAY, STAY), True), ("calm", [0] * 16))
        for rule in (Rule(5, 2, False), Rule(5, 1, False), Rule(8, 2, False), TableRule(5, 2, "none", STAY, STAY),
                     TableRule(8, 2, "one", FLIP, FLIP), TableRule(5, 3, "none", [0] * 27, [0] * 27)):
            with self.assertRaises(TooGreat):
                look(rule, True)
            look(rule)

    def test_bad_turn_goes_ahead(self):
        for rule in small_alone() + [Rule(2, 2, True), Rule(5, 2, True), Rule(2, 17, True), Rule(20, NINES, True),
                                     LeadRule(mixed(), list(range(10))), GrowRule(mixed(), 0), FarRule(line(4), 0)]:
            with self.assertRaises(BadTurn):
                look(rule, True)


class SlowestTest(unittest.TestCase):
    def test_by_hand(self):
        rule = TableRule(3, 2, "none", [0] * 8, COPY)
        ranks = look(rule)[1]
        self.assertEqual(slowest(rule, ranks, [0, 0, 0]), [[0, 0, 0]])
        self.assertEqual(slowest(rule, ranks, [0, 0, 1]), [[0, 0, 1], [0, 0, 0]])
        self.assertEqual(slowest(rule, ranks, [0, 1, 0]), [[0, 1, 0], [0, 1, 1], [0, 0, 1], [0, 0, 0]])
        way = slowest(rule, ranks, [1, 0, 1])
        self.assertEqual(way[:3] + way[4:], [[1, 0, 1], [1, 0, 0], [1, 1, 0], [0, 1, 1], [0, 0, 1], [0, 0, 0]])
        self.assertIn(way[3], ([0, 1, 0], [1, 1, 1]))

    def test_every_state_of_small_rules(self):
        for rule in small_many() + small_alone() + [pass_table(3), pass_table(4)]:
            for many in (False, True)[:1 if rule.alone else 2]:
                check_slowest(self, rule, many)

    def test_every_state_of_rising_tables(self):
        for rule in rising_tables(3, 3, 6, 53) + rising_tables(4, 3, 3, 59) + rising_tables(4, 4, 1, 61):
            for many in (False, True):
                check_slowest(self, rule, many)

    def test_from_a_calm_state(self):
        rule = PassRule(3, 4)
        for many in (False, True):
            ranks = look(rule, many)[1]
            for cells in ([1, 1, 1], [2, 1, 1], [2, 2, 0]):
                way = slowest(rule, ranks, cells, many)
                self.assertEqual(way, [cells])
                self.assertIsNot(way[0], cells)

    def test_from_a_state_of_the_greatest_rank(self):
        rule = PassRule(4, 4)
        for many in (False, True):
            ranks = look(rule, many)[1]
            cells = cells_of(rule, ranks.index(max(ranks)))
            way = slowest(rule, ranks, cells, many)
            self.assertEqual(len(way), max(ranks) + 1)
            self.assertIs(rule.calm(way[-1]), True)
            self.assertTrue(all(not rule.calm(one) for one in way[:-1]))

    def test_many_goes_by_its_own_ranks(self):
        found = 0
        for rule in rising_tables(3, 3, 20, 67):
            one, many = look(rule)[1], look(rule, True)[1]
            if one != many:
                found += 1
                check_slowest(self, rule, True)
        self.assertGreater(found, 0)

    def test_many_is_false_where_it_is_not_told(self):
        rule = FarRule(line(2), 0)
        ranks = look(rule)[1]
        for cells in states(rule):
            self.assertEqual(slowest(rule, ranks, cells), slowest(rule, ranks, cells, many=False))

    def test_never_refused_as_too_great(self):
        rule = Rule(5, 2, False)
        self.assertEqual(slowest(rule, [0] * 32, [0, 1, 0, 1, 1], True), [[0, 1, 0, 1, 1]])
        self.assertEqual(slowest(Rule(9, 2, False), [0] * 512, [1] * 9), [[1] * 9])

    def test_many_at_once_of_a_rule_that_is_alone(self):
        rule = FarRule(line(2), 0)
        ranks = look(rule)[1]
        for cells in ([0, 1], [2, 2]):
            with self.assertRaises(BadTurn):
                slowest(rule, ranks, cells, True)

    def test_lists_stay_and_are_the_askers_own(self):
        rule = PassRule(3, 4)
        for many in (False, True):
            ranks = look(rule, many)[1]
            for cells in ([1, 1, 1], [0, 1, 0], [0, 2, 1]):
                check_own(self, slowest, rule, list(ranks), list(cells), many)


if __name__ == "__main__":
    unittest.main()
