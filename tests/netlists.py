"""Netlists for tests: of lines of a plan, and some that are drawn."""

import random

from chipstack.building import build
from chipstack.gates import Netlist
from chipstack.plans import parse_plans

WORDS = {"not": 1, "and": 2, "or": 2, "xor": 2, "pick": 3}


def netlist_of(text):
    """Return the last plan of a text as it is built."""
    plans = parse_plans(text)
    return build(plans, list(plans)[-1])


def plan(*lines):
    """Return a plan as it is built."""
    return netlist_of("plan p\n" + "\n".join(lines) + "\nend\n")


def drawn_netlist(seed, ins=3, keeps=2, gates=12):
    """Return a netlist that is drawn."""
    draw, netlist = random.Random(seed), Netlist()
    netlist.add(("zero",))
    netlist.add(("one",))
    for bit in range(ins):
        netlist.add(("in", "a", bit))
    for bit in range(keeps):
        netlist.add(("keep", "k", bit, draw.randrange(2)))
    for _ in range(gates):
        word = draw.choice(sorted(WORDS))
        netlist.add((word, *[draw.randrange(len(netlist.gates)) for _ in range(WORDS[word])]))
    many = len(netlist.gates)
    netlist.outs = {"y": [draw.randrange(many - 6, many) for _ in range(2)], "z": [draw.randrange(many)]}
    netlist.nexts = {place: draw.randrange(many) for place in netlist.keeps()}
    return netlist


def changed(netlist, seed):
    """Return a netlist with one gate changed."""
    draw, found = random.Random(seed), Netlist()
    places = [place for place, gate in enumerate(netlist.gates) if gate[0] in WORDS]
    at = draw.choice(places)
    for place, gate in enumerate(netlist.gates):
        if place == at:
            word = draw.choice([word for word in sorted(WORDS) if word != gate[0]])
            gate = (word, *[draw.randrange(place) for _ in range(WORDS[word])])
        found.add(gate)
    found.outs, found.nexts = dict(netlist.outs), dict(netlist.nexts)
    return found
