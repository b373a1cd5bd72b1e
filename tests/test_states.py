"""Point 29: states."""

import random
import unittest

from chipstack.errors import GateError
from chipstack.gates import Netlist, Run
from chipstack.pipes import in_stages
from chipstack.states import Explorer, input_tables, same_states
from chipstack.traffic import turns_text
from chipstack.units import gray_text
from tests.levels import netlist_of
from tests.netlists import drawn_netlist, plan

COUNTER = ("in go 1", "out at 3", "out top 1", "keep k 3 = 0", "k <- if go then k + 1:3 else k", "at = k", "top = k == 5:3")


def kept(run):
    """Return the bits that a run keeps, in the order of the gates."""
    return tuple(run.state[place] for place in run.netlist.keeps())


def in_state(netlist, state):
    """Return a run in a state."""
    run = Run(netlist)
    run.state = dict(zip(netlist.keeps(), state))
    return run


class Going:
    """All that a circuit can come to, found by going on from each state by each table."""

    def __init__(self, netlist):
        self.tables = input_tables(netlist)
        first = kept(Run(netlist))
        self.beats, self.order, self.after = {first: 0}, [first], {}
        for state in self.order:
            self.after[state] = []
            for table in self.tables:
                run = in_state(netlist, state)
                outs = run.step(table)
                self.after[state].append((outs, kept(run)))
                if kept(run) not in self.beats:
                    self.beats[kept(run)] = self.beats[state] + 1
                    self.order.append(kept(run))

    def first_on(self, name):
        """Return how many beats it takes until something goes out, None for never."""
        return min([self.beats[state] + 1 for state in self.order if any(outs[name] for outs, _ in self.after[state])],
                   default=None)

    def unanswered(self, ask, answer, many):
        """Return how many beats the shortest row with an asking that is not answered has, None for none."""
        alive = set(self.order)
        for _ in range(many):
            alive = {state for state in self.order
                     if any(not outs[answer] and other in alive for outs, other in self.after[state])}
        return min([self.beats[state] + 1 + many for state in self.order
                    if any(outs[ask] and not outs[answer] and other in alive for outs, other in self.after[state])],
                   default=None)

    def can_return(self):
        """Return whether the first state can be reached from each one."""
        reached, more = {self.order[0]}, True
        while more:
            new = {state for state in self.order if any(other in reached for _, other in self.after[state])}
            more, reached = not new <= reached, reached | new
        return len(reached) == len(self.order)

    def same(self):
        """Return the first state that does the same for each one, by trying all that may come, as long as it tells."""
        parts = {state: str([outs for outs, _ in self.after[state]]) for state in self.order}
        while True:
            told = {state: (parts[state], *[parts[other] for _, other in self.after[state]]) for state in self.order}
            numbers = {}
            new = {state: numbers.setdefault(told[state], len(numbers)) for state in self.order}
            if len(set(new.values())) == len(set(parts.values())):
                firsts = {}
                return {state: firsts.setdefault(new[state], state) for state in self.order}
            parts = new


def told_by(netlist, tables):
    """Return what goes out in a row of beats."""
    run = Run(netlist)
    return [run.step(table) for table in tables]


class TablesTest(unittest.TestCase):
    def test_order(self):
        netlist = plan("in b 1", "in a 2", "out y 1", "y = b")
        self.assertEqual(input_tables(netlist), [{"a": number % 4, "b": number // 4} for number in range(8)])
        self.assertEqual(input_tables(plan("out y 1", "y = 1:1")), [{}])
        self.assertEqual(input_tables(plan("in a 1", "out y 1", "y = 1:1")), [{"a": 0}, {"a": 1}])

    def test_eight_bits_and_nine(self):
        for lines in (("in a 8",), ("in c 3", "in b 4", "in a 1")):
            tables = input_tables(plan(*lines, "out y 1", "y = 1:1"))
            self.assertEqual((len(tables), len({str(sorted(table.items())) for table in tables})), (256, 256))
        for lines in (("in a 9",), ("in a 8", "in b 1"), ("in a 32",)):
            netlist = plan(*lines, "out y 1", "y = 1:1")
            self.assertRaises(GateError, input_tables, netlist)
            self.assertRaises(GateError, Explorer, netlist)


class StatesTest(unittest.TestCase):
    def test_a_counter(self):
        explorer = Explorer(plan(*COUNTER))
        states = [tuple(number >> bit & 1 for bit in range(3)) for number in range(8)]
        self.assertEqual(list(explorer.states), states)
        self.assertEqual(explorer.states[states[0]], (None, None))
        for one, other in zip(states, states[1:]):
            self.assertEqual(explorer.states[other], (one, {"go": 1}))
        self.assertEqual(explorer.way_to(states[6]), [{"go": 1}] * 6)
        self.assertEqual(explorer.way_to(states[0]), [])
        self.assertEqual(explorer.first_on("top"), [{"go": 1}] * 5 + [{"go": 0}])
        self.assertIs(explorer.can_return(), True)
        self.assertEqual(same_states(explorer), {state: state for state in states})

    def test_drawn_circuits(self):
        held = {"never": 0, "answered": 0, "gone": 0, "same": 0}
        for seed in range(250):
            netlist = drawn_netlist(seed, seed % 5, seed % 6, 8 + seed % 20)
            shown = netlist.shown()
            explorer, going = Explorer(netlist), Going(netlist)
            self.assertEqual(list(explorer.states), going.order)
            for state in going.order:
                self.hold_way(netlist, explorer, going, state)
            for name in ("y", "z"):
                held["never"] += self.hold_first(netlist, explorer, going, name)
            for many in (0, 1, 2, 5, 40):
                held["answered"] += self.hold_unanswered(netlist, explorer, going, many)
            self.assertIs(explorer.can_return(), going.can_return())
            held["gone"] += not going.can_return()
            same = same_states(explorer)
            self.assertEqual((same, list(same)), (going.same(), going.order))
            held["same"] += len(set(same.values())) < len(same)
            self.assertEqual(netlist.shown(), shown)
        self.assertTrue(all(many > 5 for many in held.values()), held)

    def hold_way(self, netlist, explorer, going, state):
        """Hold the way to a state: it leads there, and is as short as the test's own."""
        way = explorer.way_to(state)
        self.assertEqual(len(way), going.beats[state])
        run = Run(netlist)
        for table in way:
            self.assertIn(table, going.tables)
            run.step(table)
        self.assertEqual(kept(run), state)
        before, table = explorer.states[state]
        if before is not None:
            self.assertEqual(going.beats[before] + 1, going.beats[state])
            self.assertIn(state, [other for _, other in going.after[before]])
            self.assertEqual(going.after[before][going.tables.index(table)][1], state)

    def hold_first(self, netlist, explorer, going, name):
        """Hold how something goes out first; return whether it never does."""
        found, long = explorer.first_on(name), going.first_on(name)
        if found is None:
            self.assertIsNone(long)
            return True
        told = told_by(netlist, found)
        self.assertEqual((len(found), [outs[name] > 0 for outs in told]), (long, [False] * (long - 1) + [True]))
        return False

    def hold_unanswered(self, netlist, explorer, going, many):
        """Hold an asking without an answer; return whether there is none."""
        found, long = explorer.unanswered("y", "z", many), going.unanswered("y", "z", many)
        if found is None:
            self.assertIsNone(long)
            return True
        told = told_by(netlist, found)[-1 - many:]
        self.assertEqual((len(found), len(told)), (long, many + 1))
        self.assertTrue(told[0]["y"] and not any(outs["z"] for outs in told))
        return False

    def test_answers_in_the_last_beat_allowed_and_later(self):
        # An asking is answered three beats behind it.
        netlist = plan("in a 1", "out ask 1", "out answer 1", "keep k 3 = 0", "k <- {k[1:0], a & k == 0:3}", "ask = a & k == 0:3",
                       "answer = k[2]")
        explorer = Explorer(netlist)
        for many in range(6):
            found = explorer.unanswered("ask", "answer", many)
            if many < 3:
                self.assertEqual(len(found), many + 1)
                self.assertEqual([outs["ask"] for outs in told_by(netlist, found)], [1] + [0] * many)
            else:
                self.assertIsNone(found)

    def test_askings_that_are_never_answered(self):
        netlist = plan("in a 2", "out ask 1", "out answer 1", "keep k 2 = 0", "k <- if k == 3:2 then 3:2 else if a == 2:2 then k + 1:2 else k",
                       "ask = k == 3:2", "answer = any(a) & k != 3:2")
        explorer = Explorer(netlist)
        for many in (0, 1, 7, 1000):
            found = explorer.unanswered("ask", "answer", many)
            self.assertEqual([outs["ask"] for outs in told_by(netlist, found)], [0] * 3 + [1] * (many + 1))
        self.assertIsNone(explorer.unanswered("answer", "answer", 0))
        self.assertIs(explorer.can_return(), False)

    def test_units_that_pass_on(self):
        # Who asks of three, and goes on asking, has it within three beats; not within two.
        text = turns_text(3).replace("  out give 3\n", "  out mine 1\n  out give 3\n")
        text = text.replace("  give = one\n", "  mine = one[2]\n  give = one\n").replace("  in ask 3\n", "  in others 2\n")
        text = text.replace("  let later", "  out asks 1\n  asks = 1:1\n  let ask = {1:1, others}\n  let later")
        explorer = Explorer(netlist_of(text, "turns"))
        self.assertEqual(len(explorer.unanswered("asks", "mine", 1)), 2)
        self.assertIsNone(explorer.unanswered("asks", "mine", 2))
        self.assertEqual(len(Explorer(netlist_of(gray_text(5), "gray")).states), 32)

    def test_circuits_that_keep_nothing_or_never_go_back(self):
        explorer = Explorer(plan("in a 2", "out y 1", "out n 1", "y = all(a)", "n = 0:1"))
        self.assertEqual((explorer.states, explorer.way_to(())), ({(): (None, None)}, []))
        self.assertEqual((explorer.first_on("y"), explorer.first_on("n")), ([{"a": 3}], None))
        self.assertEqual((explorer.can_return(), same_states(explorer)), (True, {(): ()}))
        self.assertEqual(explorer.unanswered("y", "n", 2), [{"a": 3}, {"a": 0}, {"a": 0}])
        explorer = Explorer(plan("in a 1", "out y 1", "keep k 2 = 1", "k <- if a then 2:2 else k", "y = k[1]"))
        self.assertEqual((list(explorer.states), explorer.can_return()), ([(1, 0), (0, 1)], False))
        self.assertEqual(explorer.first_on("y"), [{"a": 1}, {"a": 0}])
        explorer = Explorer(plan("out y 1", "keep k 2 = 0", "k <- k + 1:2", "y = all(k)"))
        self.assertEqual((explorer.first_on("y"), explorer.can_return()), ([{}] * 4, True))
        self.assertEqual(list(Explorer(Netlist()).states), [()])

    def test_states_that_are_the_same(self):
        lines = ("in a 1", "out y 1", "keep k 2 = 0", "keep more 1 = 0", "more <- a ^ more", "k <- if a then k + 1:2 else k")
        explorer = Explorer(plan(*lines, "y = k[0]"))
        same = same_states(explorer)
        self.assertEqual(len(explorer.states), 4)
        self.assertEqual(sorted(set(same.values())), [(0, 0, 0), (1, 0, 1)])
        for state, first in same.items():
            self.assertEqual(state[0], first[0])
        # What tells two states may come many beats later.
        explorer = Explorer(plan("in a 1", "out y 1", "keep k 6 = 0", "k <- {k[4:0], a}", "y = k[5]"))
        self.assertEqual(len(set(same_states(explorer).values())), 64)
        staged = in_stages(plan("in a 2", "out y 1", "y = (a[0] & a[1]) & ~a[0]"), 3)
        self.assertEqual(len(set(same_states(Explorer(staged)).values())), len(set(Going(staged).same().values())))

    def test_put(self):
        explorer = Explorer(plan(*COUNTER))
        shown = dict(explorer.states)
        self.assertIsNone(explorer.put((1, 0, 1)))
        self.assertEqual((explorer.states, explorer.way_to((1, 0, 1))), (shown, [{"go": 1}] * 5))

    def test_states_that_it_never_comes_to(self):
        explorer = Explorer(plan("in a 1", "out y 1", "keep k 2 = 1", "k <- if a then 2:2 else k", "y = k[1]"))
        for state in ((0, 0), (1, 1), (), (1,)):
            self.assertRaises(GateError, explorer.way_to, state)

    def test_ways_are_not_held(self):
        explorer = Explorer(plan(*COUNTER))
        explorer.way_to((1, 1, 0))[0]["go"] = 7
        explorer.first_on("top")[0].clear()
        explorer.unanswered("top", "top", 0)
        self.assertEqual(explorer.way_to((1, 1, 0)), [{"go": 1}] * 3)


class ManyStatesTest(unittest.TestCase):
    def rounds(self, many):
        """Return a circuit that goes round through so many states."""
        return plan("out y 1", "keep k 13 = 0", f"k <- if k == {many - 1}:13 then 0:13 else k + 1:13", f"y = k == {many - 1}:13")

    def test_five_thousand_and_one_more(self):
        explorer = Explorer(self.rounds(5000))
        self.assertEqual((len(explorer.states), len(explorer.first_on("y"))), (5000, 5000))
        self.assertEqual((explorer.can_return(), len(set(same_states(explorer).values()))), (True, 5000))
        for many in (5001, 8000):
            self.assertRaises(GateError, Explorer, self.rounds(many))

    def test_states_of_eight_bits(self):
        explorer = Explorer(plan("in a 8", "out y 1", "keep k 8 = 7", "k <- a", "y = k == 9:8"))
        self.assertEqual(len(explorer.states), 256)
        self.assertEqual((explorer.first_on("y"), len(set(same_states(explorer).values()))), ([{"a": 9}, {"a": 0}], 2))

    def test_ways_are_shortest_where_there_are_many(self):
        netlist = plan("in a 2", "out y 1", "keep k 9 = 0", "k <- if a == 3:2 then k << 1 else if a == 2:2 then k + 1:9 else k ^ 5:9",
                       "y = k == 301:9")
        explorer, going = Explorer(netlist), Going(netlist)
        self.assertEqual([len(explorer.way_to(state)) for state in going.order], list(going.beats.values()))
        self.assertEqual(len(explorer.first_on("y")), going.first_on("y"))


if __name__ == "__main__":
    unittest.main()
