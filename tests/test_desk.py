import random
import unittest

from calmring.desk import play
from calmring.downward import CountRule, PaintRule
from calmring.errors import BadNet, BadRule, BadState, BadText, BadTurn, NoMeasure, TooGreat
from calmring.growing import GrowRule
from calmring.leasts import FarRule, LeadRule
from calmring.looks import look
from calmring.nets import Net, line
from calmring.passing import PassRule
from calmring.tables import TableRule
from promises import GREAT, NINES, check_own, drawn_registers, drawn_turn

COPY = "00110011"
STAY = "00001111"
FLIP = "11110000"

PATH = "net 3 0-1 1-2"
# One good beginning, rule and state, for each kind of rule.
BEGINNINGS = {
    "pass": "pass 3 4\nstate 1 3 1", "paint": PATH + "\npaint\nstate 0 0 0", "count": "count 0 0\nstate 0 0 0",
    "far": PATH + "\nfar 0\nstate 3 3 3", "lead": PATH + "\nlead 2 9 0\nstate 1 0 30",
    "grow": PATH + "\ngrow 0\nstate 0 0 0", "table": f"table 3 2 none {STAY} {COPY}\nstate 1 1 0"}
DOINGS = ["turn 0", "turn", "spoil 0 5", "may", "look"]


def lines(*parts):
    return "\n".join(parts)


class EachRuleTest(unittest.TestCase):
    def check(self, text, *answers):
        self.assertEqual(play(text), list(answers))

    def test_pass(self):
        self.check(lines("pass 3 4", "state 1 3 1", "may", "measure", "turn 2 0", "may", "measure", "turn", "turn 0", "turn 1"),
                   "1 3 1 wild", "0 1 2", "6", "0 2 : 2 3 3 calm", "1", "2", "- : 2 3 3 calm", "- : 2 3 3 calm",
                   "1 : 2 2 3 calm")

    def test_paint(self):
        self.check(lines(PATH, "paint", "state 0 0 0", "may", "measure", "turn 2 1", "turn 2", "may", "measure"),
                   "0 0 0 wild", "1 2", "3", "1 2 : 0 1 1 wild", "2 : 0 1 0 calm", "-", "0")

    def test_count(self):
        self.check(lines("count 0 0 1", "state 0 0 0 0", "measure", "turn 3 0 2 1", "may", "turn 1", "turn 0", "measure"),
                   "0 0 0 0 wild", "15", "0 1 2 3 : 1 1 1 1 wild", "0 1", "1 : 1 2 1 1 wild", "0 : 4 2 1 1 calm", "0")

    def test_count_without_parents(self):
        self.check(lines("count", "state 5", "may", "measure", "spoil 0 4", "may", "turn 0"),
                   "1 calm", "-", "0", "0 wild", "0", "0 : 1 calm")

    def test_far(self):
        self.check(lines(PATH, "far 0", "state 3 3 3", "may", "turn 1", "turn 0", "turn 1", "turn 2", "measure"),
                   "3 3 3 wild", "0", "- : 3 3 3 wild", "0 : 0 3 3 wild", "1 : 0 1 3 wild", "2 : 0 1 2 calm", "0")
        # Base 4, six figures: one machine above 0 has the due 0.
        self.check(lines(PATH, "far 0", "state 3 3 3", "measure"), "3 3 3 wild", "256")

    def test_far_from_another_root(self):
        self.check(lines("net 3 2-1 0-1", "far 2", "state 2 1 0"), "2 1 0 calm")
        self.check(lines("net 3 2-1 0-1", "far 2", "state 0 1 2", "may"), "0 1 2 wild", "0 2")

    def test_lead(self):
        self.check(lines(PATH, "lead 2 9 0", "state 1 0 30", "may", "turn 2", "may", "measure"),
                   "1 0 30 wild", "2", "2 : 1 0 1 calm", "-", "0")

    def test_grow(self):
        self.check(lines(PATH, "grow 0", "state 0 0 0", "may", "measure", "turn 2"),
                   "0 0 0 wild", "0 1 2", "16391", "2 : 0 0 4 wild")
        self.check(lines(PATH, "grow 0", "state 3 6 9", "may", "measure"), "3 6 9 calm", "-", "0")

    def test_table(self):
        self.check(lines(f"table 3 2 none {STAY} {COPY}", "state 1 1 0", "may", "turn 0", "turn 2"),
                   "1 1 0 wild", "2", "- : 1 1 0 wild", "2 : 1 1 1 calm")
        self.check(lines(f"table 3 2 one {STAY} {COPY}", "state 1 1 0", "turn 2"), "1 1 0 calm", "2 : 1 1 1 wild")

    def test_the_two_tables_are_not_mixed_up(self):
        self.check(lines(f"table 2 2 none {FLIP} {STAY}", "state 0 0", "may"), "0 0 wild", "0")
        self.check(lines(f"table 2 2 none {STAY} {FLIP}", "state 0 0", "may"), "0 0 wild", "1")

    def test_one_machine_on_a_net(self):
        self.check(lines("net 1", "paint", "state 7"), "0 calm")
        self.check(lines("net 1", "far 0", "state 7", "turn 0"), "1 wild", "0 : 0 calm")
        self.check(lines("net 1", "lead 4", "state 5"), "5 calm")
        self.check(lines("net 1", "grow 0", "state 0", "turn 0"), "0 wild", "0 : 1 calm")


class AnswerTest(unittest.TestCase):
    def answers(self, *parts):
        return play(lines(*parts))

    def test_state_alone(self):
        for kind, text in BEGINNINGS.items():
            told = play(text)
            self.assertEqual([type(told), type(told[0]), len(told)], [list, str, 1], kind)

    def test_registers_are_read_as_their_rests(self):
        self.assertEqual(self.answers("pass 3 4", f"state -3 {GREAT + 3} -{NINES}"), ["1 3 1 wild"])
        self.assertEqual(self.answers("pass 3 4", "state 4 8 -4"), ["0 0 0 calm"])

    def test_great_spans(self):
        self.assertEqual(self.answers(f"pass 2 {NINES}", f"state {NINES} -1", "may", "turn 1"),
                         [f"0 {NINES - 1} calm", "1", "1 : 0 0 calm"])

    def test_spoil(self):
        self.assertEqual(self.answers("pass 3 4", "state 1 1 1", "spoil 1 3", "may", "spoil 1 1", "spoil 2 -3", "spoil 0 -1",
                                      f"spoil 2 {NINES}", f"spoil 1 -{NINES}"),
                         ["1 1 1 calm", "1 3 1 wild", "0 1 2", "1 1 1 calm", "1 1 1 calm", "3 1 1 calm", "3 1 3 wild",
                          "3 1 3 wild"])

    def test_turns(self):
        told = self.answers("pass 3 4", "state 1 3 1", "turn 2 1 0", "turn 0", "turn", "turn 2 1", "turn 2")
        self.assertEqual(told, ["1 3 1 wild", "0 1 2 : 2 1 3 wild", "- : 2 1 3 wild", "- : 2 1 3 wild", "1 2 : 2 2 1 calm",
                                "2 : 2 2 2 calm"])

    def test_movers_with_two_figures(self):
        told = self.answers("pass 12 12", "state" + " 0" * 11 + " 1", "may", "turn 11", "spoil 10 5", "may", "turn 11 10")
        zeros = "0 " * 12
        self.assertEqual(told, ["0 " * 11 + "1 calm", "11", f"11 : {zeros}calm", "0 " * 10 + "5 0 wild", "0 10 11",
                                "10 11 : " + "0 " * 11 + "5 calm"])

    def test_lines_that_ask_change_nothing(self):
        told = self.answers("pass 3 4", "state 1 3 1", "may", "measure", "look", "look many", "may", "turn", "measure")
        self.assertEqual((told[1], told[2]), (told[5], told[7]))
        self.assertEqual(told[6], "- : 1 3 1 wild")

    def test_great_measures(self):
        net = Net(10, [(at, at + 1) for at in range(9)])
        rule = LeadRule(net, [0, 1, 2, 3, 4, 5, 6, 7, 8, 9])
        cells = [(at * 37 + 5) % 101 for at in range(10)]
        told = self.answers("net 10 " + " ".join(f"{at}-{at + 1}" for at in range(9)), "lead 0 1 2 3 4 5 6 7 8 9",
                            "state " + " ".join(str(cell) for cell in cells), "measure")
        self.assertEqual(told[1], str(rule.measure(cells)))
        self.assertGreater(len(told[1]), 60)

    def test_measure_of_a_table(self):
        for word in ("none", "one"):
            with self.assertRaises(NoMeasure):
                self.answers(f"table 3 2 {word} {STAY} {COPY}", "state 1 1 0", "measure")

    def test_look_calm(self):
        self.assertEqual(self.answers(f"table 2 2 none {COPY} {COPY}", "state 0 1", "look"), ["0 1 wild", "calm 1"])
        # From 1 1 machine 1, then 0, then 1: three deeds.
        self.assertEqual(self.answers("net 2 0-1", "far 0", "state 0 1", "look"), ["0 1 calm", "calm 3"])
        self.assertEqual(self.answers(f"table 2 2 none {STAY} {STAY}", "state 0 1", "look", "look many"),
                         ["0 1 calm", "calm 0", "calm 0"])
        # Both at once would be one deed, but the greatest number is told: one behind the other.
        zeros = "0" * 8
        self.assertEqual(self.answers(f"table 2 2 none {zeros} {zeros}", "state 0 0", "look", "look many"),
                         ["0 0 calm", "calm 2", "calm 2"])

    def test_look_round(self):
        self.assertEqual(self.answers(f"table 2 2 none {COPY} {COPY}", "state 0 0", "look many"), ["0 0 calm", "round"])
        self.assertEqual(self.answers(f"table 2 2 none {FLIP} {FLIP}", "state 0 0", "look", "look many"),
                         ["0 0 wild", "round", "round"])

    def test_look_leaves(self):
        # Machine 0 alone may at 0 0; behind its deed both may.
        self.assertEqual(self.answers(f"table 2 2 one {FLIP} {COPY}", "state 1 1", "look", "look many"),
                         ["1 1 calm", "leaves 0 0", "leaves 0 0"])
        # Calm are the states in which one of machines 1 and 2 may; 0 0 1 is the first, left for 0 0 0.
        self.assertEqual(self.answers(f"table 3 2 one {STAY} {COPY}", "state 1 1 1", "look", "look many"),
                         ["1 1 1 wild", "leaves 0 0 1", "leaves 0 0 1"])

    def test_look_stuck(self):
        self.assertEqual(self.answers(f"table 2 2 one {STAY} {STAY}", "state 1 1", "look", "look many"),
                         ["1 1 wild", "stuck 0 0", "stuck 0 0"])

    def test_look_stuck_at_a_later_state(self):
        # Machine 1 stays; machine 0 flips where machine 1 has 0: calm for ever there, stuck where it has 1.
        flip_beside_0 = "10100101"
        rule = TableRule(2, 2, "one", [int(figure) for figure in flip_beside_0], [int(figure) for figure in STAY])
        self.assertEqual([rule.movers([own, beside]) for own in range(2) for beside in range(2)], [[0], [], [0], []])
        self.assertEqual(self.answers(f"table 2 2 one {flip_beside_0} {STAY}", "state 1 0", "look", "look many"),
                         ["1 0 calm", "stuck 0 1", "stuck 0 1"])

    def test_look_is_at_the_rule_not_at_the_state(self):
        for state in ("0 0", "0 1", "1 0", "1 1"):
            self.assertEqual(self.answers(f"table 2 2 one {FLIP} {COPY}", "state " + state, "look")[1], "leaves 0 0")

    def test_look_too_great(self):
        for parts in (["pass 3 7", "state 0 0 0", "look"], ["pass 3 7", "state 0 0 0", "look many"],
                      [f"table 5 2 none {STAY} {COPY}", "state 0 0 0 0 0", "look many"],
                      ["count 0 0 0", "state 0 0 0 0", "look"], ["net 3 0-1 1-2", "grow 0", "state 0 0 0", "look"],
                      [f"pass 2 {NINES}", "state 0 0", "look"]):
            with self.assertRaises(TooGreat, msg=parts):
                self.answers(*parts)
        self.assertEqual(self.answers(f"table 5 2 none {STAY} {COPY}", "state 0 0 0 0 0", "look")[1][:4], "calm")
        self.assertEqual(self.answers("pass 2 16", "state 0 0", "look")[1][:4], "calm")

    def test_look_many_of_a_rule_that_is_alone(self):
        for parts in (["net 2 0-1", "far 0", "state 0 1"], ["net 1", "lead 3", "state 0"], [PATH, "grow 0", "state 0 0 0"],
                      [PATH, "lead 1 2 3", "state 0 0 0"]):
            with self.assertRaises(BadTurn, msg=parts):
                self.answers(*parts, "look many")

    def test_a_second_play_tells_the_same(self):
        for text in BEGINNINGS.values():
            check_own(self, play, lines(text, *DOINGS[:4]))


class OrderTest(unittest.TestCase):
    def check_bad(self, *parts):
        with self.assertRaises(BadText, msg=parts):
            play(lines(*parts))

    def test_nothing_is_wrong_with_the_beginnings(self):
        for kind, text in BEGINNINGS.items():
            for doing in DOINGS[:4]:
                self.assertEqual(len(play(lines(text, doing, doing))), 3, kind)

    def test_a_net_where_none_may_stand(self):
        for kind in ("pass", "count", "table"):
            self.check_bad(PATH, BEGINNINGS[kind])

    def test_no_net_where_one_must(self):
        for kind in ("paint", "far", "lead", "grow"):
            self.check_bad(BEGINNINGS[kind].split("\n", 1)[1])

    def test_two_nets(self):
        self.check_bad(PATH, BEGINNINGS["paint"])
        self.check_bad(PATH, PATH, "paint", "state 0 0 0")

    def test_two_rules(self):
        self.check_bad("pass 3 4", BEGINNINGS["pass"])
        self.check_bad(PATH, "paint", "paint", "state 0 0 0")
        self.check_bad(PATH, "paint", "pass 3 4", "state 0 0 0")
        self.check_bad("pass 3 4", PATH, "paint", "state 0 0 0")

    def test_the_net_behind_the_rule(self):
        self.check_bad("paint", PATH, "state 0 0 0")
        self.check_bad("pass 3 4", PATH, "state 0 0 0")

    def test_no_rule(self):
        self.check_bad("state 0 0 0")
        self.check_bad("state 0 0 0", "may")
        self.check_bad(PATH, "state 0 0 0")
        self.check_bad(PATH, "may", "state 0 0 0")
        self.check_bad("may", "state 0 0 0")

    def test_no_state(self):
        self.check_bad(PATH)
        for text in BEGINNINGS.values():
            beginning = text.rsplit("\n", 1)[0]
            self.check_bad(beginning)
            for doing in DOINGS:
                self.check_bad(beginning, doing)

    def test_two_states(self):
        for text in BEGINNINGS.values():
            self.check_bad(text, "state 0 0 0")
            self.check_bad(text, "may", "state 0 0 0", "may")

    def test_a_line_ahead_of_the_state(self):
        for text in BEGINNINGS.values():
            parts = text.split("\n")
            for doing in DOINGS:
                for place in range(len(parts)):
                    self.check_bad(*parts[:place], doing, *parts[place:])

    def test_a_rule_or_a_net_behind_the_state(self):
        for text in BEGINNINGS.values():
            for more in ("pass 3 4", "paint", "count 0 0", "far 0", "lead 1 2 3", "grow 0", f"table 3 2 one {STAY} {COPY}",
                         PATH, "net 1"):
                self.check_bad(text, more)
                self.check_bad(text, "may", more, "may")

    def test_texts_that_are_none(self):
        self.check_bad("")
        self.check_bad("\n")
        for text in BEGINNINGS.values():
            for parts in ((text, ""), ("", text), (text, "", "may"), (text, "may "), (text, " may"), (text, "May"),
                          (text, "turn  0"), (text, "spoil 0"), (text, "look 1"), (text, "turn 00"), (text, "may", "")):
                self.check_bad(*parts)


class RefusalTest(unittest.TestCase):
    def check(self, error, *parts):
        with self.assertRaises(error, msg=parts):
            play(lines(*parts))

    def test_nets(self):
        for net in ("net 0", "net 11", "net -1", "net 2", "net 2 0-0", "net 2 0-2", "net 2 0-1 1-0", "net 3 0-1", f"net {GREAT}",
                    f"net 2 0-{NINES}"):
            for rule in ("paint", "far 0", "lead 1 2", "grow 0"):
                self.check(BadNet, net, rule, "state 0 0")

    def test_rules(self):
        for rule in ("pass 1 1", "pass 21 21", "pass 3 2", "pass -3 4", "pass 3 -4", "count 1", "count 0 2", "count -1",
                     "count" + " 0" * 10, f"table 1 2 none {STAY} {STAY}", f"table 9 2 none {STAY} {STAY}",
                     f"table 2 1 none {STAY} {STAY}", f"table 2 5 none {STAY} {STAY}", f"table 2 3 none {STAY} {STAY}",
                     f"table 2 2 one {STAY}0 {STAY}", f"table 2 2 one {STAY} 0", f"table 2 2 one 00002000 {STAY}",
                     f"table 2 2 one {STAY} 00000009"):
            self.check(BadRule, rule, "state 0 0 0")
        for rule in ("far 3", "far -1", f"far {NINES}", "lead", "lead 1 2", "lead 1 2 3 4", "lead 1 2 1", "lead 1 2 10",
                     "lead -1 2 3", "grow 3", "grow -1"):
            self.check(BadRule, PATH, rule, "state 0 0 0")

    def test_states(self):
        for text in BEGINNINGS.values():
            beginning = text.rsplit("\n", 1)[0]
            for state in ("state", "state 0 0", "state 0 0 0 0"):
                self.check(BadState, beginning, state)
                self.check(BadState, beginning, state, "may")

    def test_turns(self):
        for text in BEGINNINGS.values():
            for turn in ("turn 3", "turn -1", "turn 0 0", "turn 0 1 3", f"turn {NINES}", f"turn -{GREAT}"):
                self.check(BadTurn, text, turn)
                self.check(BadTurn, text, "may", turn, "may")
        for kind in ("far", "lead", "grow"):
            self.check(BadTurn, BEGINNINGS[kind], "turn 0 1")

    def test_faults(self):
        for text in BEGINNINGS.values():
            for fault in ("spoil 3 0", "spoil -1 0", f"spoil {NINES} 0", f"spoil -{GREAT} 0"):
                self.check(BadState, text, fault)
                self.check(BadState, text, "may", fault, "may")

    def test_bad_text_ahead_of_all_else(self):
        for wrong in (["pass 1 1", "state 0"], ["net 0", "paint", "state 0"], ["pass 2 2", "state 0"],
                      ["pass 2 2", "state 0 0", "turn 5"], ["pass 2 2", "state 0 0", "spoil 5 0"],
                      [f"table 2 2 one {STAY} {STAY}", "state 0 0", "measure"], ["pass 9 9", "state" + " 0" * 9, "look"],
                      ["net 1", "far 0", "state 0", "look many"]):
            for bad in ("", "foo", "may 0", "turn 01", "spoil 0", "MAY", "state", "paint", "net 1", "pass 3 4", "state 0 0"):
                self.check(BadText, *wrong, bad)
                self.check(BadText, *wrong, "may", bad, "may")
        self.check(BadText, "net 0", "pass 1 1", "state 0")
        self.check(BadText, "net 0", "state 0")
        self.check(BadText, "pass 1 1")

    def test_the_first_line_that_is_refused(self):
        table = f"table 2 2 one {STAY} {STAY}"
        self.check(BadNet, "net 0", "far 7", "state", "turn 9")
        self.check(BadNet, "net 2 0-0", "lead 1 1", "state 0 0")
        self.check(BadRule, "net 1", "far 7", "state 0 0", "turn 9")
        self.check(BadRule, "pass 1 1", "state", "turn 9", "look")
        self.check(BadState, "pass 2 2", "state 0", "turn 9")
        self.check(BadState, table, "state 0", "measure")
        self.check(BadState, "pass 9 9", "state 0", "look")
        self.check(BadTurn, "pass 2 2", "state 0 0", "turn 9", "spoil 9 0")
        self.check(BadState, "pass 2 2", "state 0 0", "spoil 9 0", "turn 9")
        self.check(NoMeasure, table, "state 0 0", "measure", "turn 9")
        self.check(BadTurn, table, "state 0 0", "turn 9", "measure")
        self.check(TooGreat, "pass 9 9", "state" + " 0" * 9, "look", "turn 9")
        self.check(BadTurn, "pass 9 9", "state" + " 0" * 9, "turn 9", "look")
        self.check(BadState, "pass 9 9", "state" + " 0" * 9, "spoil 9 9", "look")

    def test_a_refused_line_behind_good_ones_refuses_the_play(self):
        self.check(BadTurn, "pass 2 2", "state 0 0", *["turn 0", "turn 1"] * 140, "turn 2")
        self.assertEqual(len(play(lines("pass 2 2", "state 0 0", *["turn 0", "turn 1"] * 149))), 299)


def shown(rule, cells):
    return " ".join(str(cell) for cell in cells) + (" calm" if rule.calm(cells) else " wild")


def names_shown(machines):
    return " ".join(str(at) for at in machines) or "-"


def plain_play(rule, registers, doings):
    """The lines and the answers of a play, by the rule's dues, calm and measure."""
    cells = [number - number // rule.span * rule.span for number in registers]
    told, answers = [" ".join(["state"] + [str(number) for number in registers])], [shown(rule, cells)]
    for doing in doings:
        dues = [rule.due(cells, at) for at in range(rule.size)]
        movers = [at for at in range(rule.size) if dues[at] != cells[at]]
        told.append(" ".join(str(one) for one in doing))
        if doing[0] == "turn":
            cells = [dues[at] if at in doing[1:] else cells[at] for at in range(rule.size)]
            answers.append(names_shown([at for at in movers if at in doing[1:]]) + " : " + shown(rule, cells))
        elif doing[0] == "spoil":
            cells[doing[1]] = doing[2] - doing[2] // rule.span * rule.span
            answers.append(shown(rule, cells))
        elif doing[0] == "may":
            answers.append(names_shown(movers))
        else:
            answers.append(str(rule.measure(cells)))
    return told, answers


class DrawnTest(unittest.TestCase):
    RULES = [
        ("pass 5 6", PassRule(5, 6)), ("pass 2 2", PassRule(2, 2)), ("count 0 1 1 0", CountRule([0, 1, 1, 0])),
        (PATH + "\npaint", PaintRule(line(3))), (PATH + "\nfar 1", FarRule(line(3), 1)),
        (PATH + "\nlead 3 0 8", LeadRule(line(3), [3, 0, 8])), (PATH + "\ngrow 2", GrowRule(line(3), 2)),
        (f"table 4 2 none {FLIP} {COPY}", TableRule(4, 2, "none", [1, 1, 1, 1, 0, 0, 0, 0], [0, 0, 1, 1, 0, 0, 1, 1])),
        (f"table 4 2 one {COPY} {STAY}", TableRule(4, 2, "one", [0, 0, 1, 1, 0, 0, 1, 1], [0, 0, 0, 0, 1, 1, 1, 1]))]

    def doing(self, draw, beginning, rule):
        kind = draw.choice(["turn", "turn", "turn", "spoil", "may"] + ([] if "table" in beginning else ["measure"]))
        if kind == "turn":
            return ["turn"] + drawn_turn(draw, rule)
        if kind == "spoil":
            return ["spoil", draw.randrange(rule.size), draw.choice([-1, 0, 3, draw.randint(-NINES, NINES)])]
        return [kind]

    def test_drawn_plays(self):
        draw = random.Random(33)
        for beginning, rule in self.RULES:
            for length in (0, 1, 5, 5, 5, 40):
                doings = [self.doing(draw, beginning, rule) for line in range(length)]
                told, answers = plain_play(rule, drawn_registers(draw, rule), doings)
                self.assertEqual(play(lines(beginning, *told)), answers)

    def test_looks_at_drawn_tables(self):
        draw = random.Random(34)
        seen = set()
        for turn in range(120):
            size, word = draw.choice([2, 3]), draw.choice(["none", "one"])
            tables = [[draw.randrange(2) for entry in range(8)] for table in range(2)]
            figures = ["".join(str(number) for number in table) for table in tables]
            for many in (False, True):
                found = look(TableRule(size, 2, word, tables[0], tables[1]), many)
                ought = {"calm": lambda: f"calm {max(found[1])}", "round": lambda: "round",
                         "stuck": lambda: "stuck " + " ".join(str(cell) for cell in found[1]),
                         "leaves": lambda: "leaves " + " ".join(str(cell) for cell in found[1])}[found[0]]()
                told = play(lines(f"table {size} 2 {word} {figures[0]} {figures[1]}", "state" + " 0" * size,
                                  "look many" if many else "look"))
                self.assertEqual(told[1], ought)
                seen.add(found[0])
        self.assertEqual(seen, {"calm", "round", "stuck", "leaves"})


if __name__ == "__main__":
    unittest.main()
