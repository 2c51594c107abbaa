"""Choosing rows of instructions for functions of middle code [41]."""

from trueimage.choosers import Chooser
from trueimage.facts import Facts
from trueimage.middlerows import PURE, greatest_value


def chosen(function):
    """The function of chosen rows that does what a function of middle code does."""
    facts = Facts(function)
    chooser = Chooser(facts, function[2], greatest_value(function) + 1)
    order = sorted(facts.flow.order)
    places = {number: at for at, number in enumerate(order)}
    ends = {}
    effects = []
    for number in order:
        for row in facts.blocks[number][1]:
            if row[0] not in PURE:
                effects.append(chooser.effect(row))
        ends[number] = chooser.end(facts.blocks[number][2], places)
    chooser.make_wanted()
    effects.reverse()
    blocks = []
    for number in order:
        params, rows, _ = facts.blocks[number]
        made = []
        for row in rows:
            made.extend(chooser.made.get(row[1], []) if row[0] in PURE else effects.pop())
        ahead, end = ends[number]
        params = (chooser.depth,) + params if number == 0 else params
        blocks.append((params, tuple(made + ahead), end))
    return (function[0], function[2], tuple(blocks))
