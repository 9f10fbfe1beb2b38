"""The desk: plays a text that tells a rule, a state and what is done with it."""

from calmring.downward import CountRule, PaintRule
from calmring.errors import BadText
from calmring.faults import spoil
from calmring.growing import GrowRule
from calmring.leasts import FarRule, LeadRule
from calmring.looks import look
from calmring.nets import Net
from calmring.passing import PassRule
from calmring.runs import run
from calmring.tables import TableRule
from calmring.texts import read_text

NET_RULES = ("paint", "far", "lead", "grow")
BARE_RULES = ("pass", "count", "table")
DOINGS = ("turn", "spoil", "may", "measure", "look")


def play(text):
    lines = read_text(text)
    refuse_order(lines)
    first = state_at(lines)
    rule = rule_of(lines[:first])
    cells = rule.read(lines[first][1])
    answers = [shown(rule, cells)]
    for line in lines[first + 1:]:
        row = row_behind(rule, cells, line)
        cells = row[1]
        answers.append(answer(rule, row, line))
    return answers


def state_at(lines):
    return 2 if lines[0][0] == "net" else 1


def refuse_order(lines):
    kinds = [line[0] for line in lines]
    first = state_at(lines)
    rules = NET_RULES if kinds[0] == "net" else BARE_RULES
    if len(kinds) <= first or kinds[first] != "state":
        raise BadText("no state stands behind the rule")
    if kinds[first - 1] not in rules:
        raise BadText("no rule stands where one must, or its net is missing or too much")
    for kind in kinds[first + 1:]:
        if kind not in DOINGS:
            raise BadText("a net, a rule or a state stands behind the state")


def rule_of(lines):
    line = lines[-1]
    if lines[0][0] == "net":
        return rule_on_net(Net(lines[0][1], lines[0][2]), line)
    if line[0] == "pass":
        return PassRule(line[1], line[2])
    if line[0] == "count":
        return CountRule(line[1])
    return TableRule(line[1], line[2], line[3], line[4], line[5])


def rule_on_net(net, line):
    if line[0] == "paint":
        return PaintRule(net)
    if line[0] == "far":
        return FarRule(net, line[1])
    if line[0] == "lead":
        return LeadRule(net, line[1])
    return GrowRule(net, line[1])


def row_behind(rule, cells, line):
    """Who did something at the line, and the cells behind it."""
    if line[0] == "turn":
        return run(rule, cells, [line[1]])[0]
    if line[0] == "spoil":
        return ([], rule.read(spoil(cells, [(line[1], line[2])])))
    return ([], cells)


def answer(rule, row, line):
    cells = row[1]
    if line[0] == "turn":
        return joined([machines_shown(row[0]), ":", shown(rule, cells)])
    if line[0] == "spoil":
        return shown(rule, cells)
    if line[0] == "may":
        return machines_shown(rule.movers(cells))
    if line[0] == "measure":
        return str(rule.measure(cells))
    return look_shown(look(rule, line[1]))


def shown(rule, cells):
    return joined(cells + ["calm" if rule.calm(cells) else "wild"])


def machines_shown(machines):
    return joined(machines) if len(machines) > 0 else "-"


def look_shown(found):
    if found[0] == "calm":
        return joined(["calm", max(found[1])])
    if found[0] == "round":
        return "round"
    return joined([found[0]] + found[1])


def joined(things):
    return " ".join([str(thing) for thing in things])
