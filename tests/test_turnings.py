"""turning, turnings, steady."""

import itertools
import math
import time
import unittest

from carryladder.errors import TooMany
from carryladder.leastmachines import least
from carryladder.machines import ending
from carryladder.turnings import steady, turning, turnings
from tests.helpers import (BLINK, COPY, MINUS, PARITY, PLUS, clock, cycles, machine_of_moves, outcome, raises,
                           random_machine, renamed, seeded)

MANY = raises(TooMany, limit=2000)

# Two turnings of 15 states by which a group of 20 * 20 * 5 turnings comes about: in two blocks of five states all that
# multiply and add modulo 5, while the third block goes round.
FIRST = [1, 2, 3, 4, 0] + [5 + 2 * k % 5 for k in range(5)] + [11, 12, 13, 14, 10]
SECOND = [2 * k % 5 for k in range(5)] + [6, 7, 8, 9, 5] + [10, 11, 12, 13, 14]


def led(machine, state, string):
    for letter in string:
        state = machine[1][state][letter][0]
    return state


def told_turning(machine, string):
    return tuple([led(machine, q, string) for q in range(len(machine[1]))])


def lots_told(machine):
    """Lot by lot the first strings of all turnings, each made by a letter put ahead of shorter strings."""
    letters = range(2 ** machine[0])
    alone = [told_turning(machine, (x,)) for x in letters]
    lot = {tuple(range(len(machine[1]))): ()}
    while True:
        longer = {}
        for x in letters:
            for own, string in lot.items():
                both = tuple([own[state] for state in alone[x]])
                if both not in longer or (x,) + string < longer[both]:
                    longer[both] = (x,) + string
        lot = longer
        yield lot


def told_turnings(machine):
    """turnings, by the lots one behind another, until as many of these as may be have nothing new."""
    found, idle = {}, 0
    seen = set()
    for lot in lots_told(machine):
        for own, string in lot.items():
            found.setdefault(own, string)
        if len(found) > 2000:
            return MANY
        # When a lot comes again so does all behind it.
        key = frozenset(lot)
        if key in seen:
            return repr(tuple(sorted(found.items())))
        seen.add(key)


def told_steady(machine, bound=2000):
    lots = [None]
    for lot in lots_told(machine):
        lots.append(lot)
        if len(lot) > bound or len(lots) > 2 * bound + 1:
            return MANY
        n = len(lots) - 1
        if n % 2 == 0 and set(lots[n // 2]) == set(lot):
            return repr((n // 2, tuple(sorted(lots[n // 2].items()))))


def with_cycles(rng, *sizes):
    """A machine of one word by both letters of which states go round in cycles, one of them another way about."""
    moves = cycles(*sizes)
    other = [moves[q] for q in moves]
    return machine_of_moves([moves, other] if rng.randrange(2) else [moves, moves])


def linked_cycles(*sizes):
    """The machine of 24 states each letter of which leads round in a cycle, and to the state 23 from elsewhere.

    Each two cycles share a state; so there are few turnings, but no two letters go round together.
    """
    ways, states = [[] for _ in sizes], 0
    for one, other in itertools.combinations(range(len(sizes)), 2):
        ways[one].append(states)
        ways[other].append(states)
        states += 1
    for way, size in zip(ways, sizes):
        while len(way) < size:
            way.append(states)
            states += 1
    moves = [[23] * 24 for _ in ways]
    for own, way in zip(moves, ways):
        for q, following in zip(way, way[1:] + way[:1]):
            own[q] = following
    return machine_of_moves(moves)


class TurningTest(unittest.TestCase):
    def test_each_state_is_led(self):
        rng = seeded(261)
        for many in (0, 1, 2):
            for states in (1, 2, 5, 24):
                machine = random_machine(rng, many, states)
                for length in (0, 1, 2, 3, 10, 100):
                    string = tuple([rng.randrange(2 ** many) for _ in range(length)])
                    self.assertEqual(outcome(turning, machine, string), repr(told_turning(machine, string)))

    def test_the_empty_string(self):
        for machine in (MINUS, PLUS, COPY, PARITY, BLINK, clock((0,) * 24)):
            self.assertEqual(turning(machine, ()), tuple(range(len(machine[1]))))

    def test_the_state_0_ends_where_the_machine_does(self):
        rng = seeded(262)
        for many in (0, 1, 2):
            machine = random_machine(rng, many, 24)
            string = tuple([rng.randrange(2 ** many) for _ in range(50)])
            self.assertEqual(turning(machine, string)[0], ending(machine, string))

    def test_strings_in_parts(self):
        rng = seeded(263)
        for many in (0, 1, 2):
            machine = random_machine(rng, many, 9)
            for length in (0, 1, 7, 30):
                one = tuple([rng.randrange(2 ** many) for _ in range(length)])
                other = tuple([rng.randrange(2 ** many) for _ in range(5)])
                a, b = turning(machine, one), turning(machine, other)
                self.assertEqual(turning(machine, one + other), tuple([b[state] for state in a]))

    def test_strings_of_4000_letters(self):
        rng = seeded(264)
        around = machine_of_moves([cycles(24), [q for q in range(24)]])
        string = tuple([rng.randrange(2) for _ in range(4000)])
        steps = string.count(0)
        self.assertEqual(turning(around, string), tuple([(q + steps) % 24 for q in range(24)]))
        for many in (0, 1, 2):
            machine = random_machine(rng, many, 24)
            string = tuple([rng.randrange(2 ** many) for _ in range(4000)])
            self.assertEqual(turning(machine, string), told_turning(machine, string))
        self.assertEqual(turning(clock((0,) * 24), (0,) * 4000), tuple([(q + 4000) % 24 for q in range(24)]))


class TurningsTest(unittest.TestCase):
    def check(self, machine):
        told = told_turnings(machine)
        self.assertEqual(outcome(turnings, machine), told)
        return told

    def test_random_machines(self):
        rng = seeded(271)
        counts = set()
        for many in (0, 1, 2):
            for states in range(1, 5):
                for _ in range(12):
                    counts.add(self.check(random_machine(rng, many, states)).count("(("))
        self.assertGreater(len(counts), 15)

    def test_all_strings_of_small_machines(self):
        rng = seeded(272)
        for _ in range(25):
            machine = random_machine(rng, 1, rng.randint(1, 3))
            first = {}
            for length in range(1, 9):
                for string in itertools.product((0, 1), repeat=length):
                    first.setdefault(told_turning(machine, string), string)
            found = dict(turnings(machine))
            # A machine of three states may have strings that are longer yet.
            for own, string in found.items():
                self.assertEqual(first.get(own, string), string)
            self.assertTrue(set(first) <= set(found))

    def test_machines_of_all_sizes(self):
        rng = seeded(273)
        for states in range(1, 25):
            self.check(machine_of_moves([cycles(states)]))
            late = [min(q + 1, states - 1) for q in range(states)]
            self.check(machine_of_moves([late, [0] * states]))
            self.check(machine_of_moves([late, list(range(states)), [states - 1] * states, [0] * states]))
            self.check(machine_of_moves([cycles(states), list(range(states))]))

    def test_letters_that_set_or_stay(self):
        moves = [[x] * 24 for x in range(3)] + [list(range(24))]
        told = tuple(sorted([(tuple(own), (x,)) for x, own in enumerate(moves)]))
        self.assertEqual(turnings(machine_of_moves(moves)), told)

    def test_the_identity_is_told_by_a_string_of_letters(self):
        around = dict(turnings(clock((0,) * 5)))
        self.assertEqual(around[(0, 1, 2, 3, 4)], (0,) * 5)
        self.assertEqual(dict(turnings(PARITY))[(0, 1)], (0,))
        # Here no string leads each state to itself.
        self.assertNotIn((0, 1), dict(turnings(machine_of_moves([[0, 0], [1, 1]]))))

    def test_shortest_strings_and_of_these_the_first(self):
        # The letters 1 and 2 do the same, and so do (0, 0) and 3.
        moves = [cycles(6), [5, 0, 1, 2, 3, 4], [5, 0, 1, 2, 3, 4], [2, 3, 4, 5, 0, 1]]
        told = {(1, 2, 3, 4, 5, 0): (0,), (5, 0, 1, 2, 3, 4): (1,), (2, 3, 4, 5, 0, 1): (3,),
                (0, 1, 2, 3, 4, 5): (0, 1), (3, 4, 5, 0, 1, 2): (0, 3), (4, 5, 0, 1, 2, 3): (1, 1)}
        self.assertEqual(turnings(machine_of_moves(moves)), tuple(sorted(told.items())))

    def test_2000_and_2001(self):
        still = list(range(15))
        self.assertEqual(len(turnings(machine_of_moves([FIRST, SECOND]))), 2000)
        self.assertEqual(len(turnings(machine_of_moves([FIRST, still, SECOND, FIRST]))), 2000)
        # One letter more leads all states to a further one: one turning more.
        lost = [own + [15] for own in (FIRST, SECOND)] + [[15] * 16]
        self.assertEqual(outcome(turnings, machine_of_moves(lost + [lost[2]])), MANY)
        self.assertEqual(outcome(turnings, machine_of_moves(lost + [lost[0]])), MANY)
        self.assertEqual(len(turnings(machine_of_moves(lost[:2]))), 2000)

    def test_two_thousand_of_24_states(self):
        start = time.perf_counter()
        ends = [[15, 16, 17, 18, 19, 20, 21, 22, 23], [15] * 9]
        moves = [FIRST + ends[0], SECOND + ends[0]]
        self.assertEqual(outcome(turnings, machine_of_moves(moves)), told_turnings(machine_of_moves(moves)))
        slow = machine_of_moves([cycles(3, 5, 7, 8) + [23], list(range(24))])
        self.assertEqual(len(turnings(slow)), 840)
        twice = machine_of_moves([cycles(3, 5, 8, 7) + [23], [23] * 24])
        self.assertEqual(len(turnings(twice)), 841)
        self.assertLess(time.perf_counter() - start, 60)

    def test_one_long_string(self):
        # The turnings of one letter go on to 840 of them before they come round.
        found = turnings(machine_of_moves([cycles(3, 5, 7, 8)]))
        self.assertEqual(sorted([len(string) for _, string in found]), list(range(1, 841)))

    def test_too_many(self):
        rng = seeded(274)
        for many in (1, 2):
            self.assertTrue(MANY in [outcome(turnings, random_machine(rng, many, 24)) for _ in range(8)])
        rounds = machine_of_moves([cycles(7), [1, 0, 2, 3, 4, 5, 6]])
        self.assertEqual(outcome(turnings, rounds), MANY)
        self.assertEqual(len(turnings(machine_of_moves([cycles(6), [1, 0, 2, 3, 4, 5]]))), 720)

    def test_the_machine_as_it_is(self):
        # Its states write alike, but they are not made one.
        same = machine_of_moves([[1, 2, 0], [0, 0, 0]])
        self.assertEqual(len(least(same)[1]), 1)
        self.assertEqual(outcome(turnings, same), told_turnings(same))
        lone = (1, MINUS[1] + (((1, 0), (2, 0)),))
        self.assertEqual(turnings(lone), (((0, 1, 1), (0,)), ((1, 1, 1), (0, 1)), ((1, 1, 2), (1,))))

    def test_states_called_otherwise(self):
        rng = seeded(275)
        for _ in range(20):
            machine = random_machine(rng, 1, 4)
            names = [0] + rng.sample(range(1, 4), 3)
            other = renamed(machine, names)
            back = [names.index(q) for q in range(4)]
            told = [(tuple([names[own[back[q]]] for q in range(4)]), string) for own, string in turnings(machine)]
            self.assertEqual(turnings(other), tuple(sorted(told)))


class SteadyTest(unittest.TestCase):
    def check(self, machine):
        told = told_steady(machine)
        self.assertEqual(outcome(steady, machine), told)
        return told

    def test_random_machines(self):
        rng = seeded(281)
        found = set()
        for many in (0, 1, 2):
            for states in range(1, 5):
                for _ in range(12):
                    found.add(self.check(random_machine(rng, many, states)).split(",")[0])
        self.assertGreater(len(found), 6)

    def test_all_strings_of_small_machines(self):
        rng = seeded(282)
        for _ in range(40):
            machine = random_machine(rng, 1, rng.randint(1, 3))
            s, pairs = steady(machine)
            if s > 6:
                continue
            lots = [{}]
            for length in range(1, 2 * s + 1):
                lot = {}
                for string in itertools.product((0, 1), repeat=length):
                    lot.setdefault(told_turning(machine, string), string)
                lots.append(lot)
            self.assertEqual(pairs, tuple(sorted(lots[s].items())))
            for n in range(1, s + 1):
                self.assertEqual(set(lots[n]) == set(lots[2 * n]), n == s)

    def test_clocks(self):
        rng = seeded(283)
        for sizes in ((1,), (24,), (2, 3), (4, 6), (3, 5, 7), (5, 7, 11), (7, 8, 9), (3, 5, 7, 8), (23,), (1, 23)):
            whole = math.lcm(*sizes)
            s, pairs = steady(machine_of_moves([cycles(*sizes)]))
            self.assertEqual((s, pairs), (whole, ((tuple(range(sum(sizes))), (0,) * whole),)))
            self.assertEqual(steady(machine_of_moves([cycles(*sizes)] * 4))[0], whole)
            if whole < 100:
                self.check(with_cycles(rng, *sizes))
                self.check(machine_of_moves([cycles(*sizes), list(range(sum(sizes)))]))

    def test_clocks_with_a_way_ahead(self):
        for states in range(2, 25):
            for back in range(states):
                machine = clock((0,) * states, back)
                around = states - back
                s, pairs = steady(machine)
                self.assertEqual(s, max(1, -(-back // around)) * around)
                self.assertEqual(pairs, ((turning(machine, (0,) * s), (0,) * s),))

    def test_machines_of_all_sizes(self):
        for states in range(1, 25):
            late = [min(q + 1, states - 1) for q in range(states)]
            for moves in ([late, [0] * states], [late, list(range(states))], [cycles(states), [0] * states],
                          [late, [max(q - 1, 0) for q in range(states)]] if states < 7 else [late, late]):
                self.check(machine_of_moves(moves))

    def test_lots_of_2000_and_2001(self):
        still = list(range(15))
        start = time.perf_counter()
        s, pairs = steady(machine_of_moves([FIRST, SECOND, still, still]))
        self.assertEqual(len(pairs), 2000)
        self.assertEqual(outcome(steady, machine_of_moves([FIRST, SECOND, still, still])), repr((s, pairs)))
        self.assertEqual(repr((s, pairs)), told_steady(machine_of_moves([FIRST, SECOND, still, still])))
        lost = [own + [15] for own in (FIRST, SECOND, still)] + [[15] * 16]
        self.assertEqual(outcome(steady, machine_of_moves(lost)), MANY)
        self.assertEqual(len(steady(machine_of_moves(lost[:3] + [lost[2]]))[1]), 2000)
        # Of two letters the lots are parts of the 2000 turnings.
        self.check(machine_of_moves([FIRST, SECOND]))
        self.assertLess(time.perf_counter() - start, 60)

    def test_lots_that_go_through_too_many(self):
        # In the end all strings do the same, but on the way lots have more turnings than may be.
        rounds = [cycles(7) + [8] * 17, [1, 0, 2, 3, 4, 5, 6] + [8] * 17]
        self.assertEqual(outcome(steady, machine_of_moves(rounds)), MANY)

    def test_s_near_2000_and_beyond(self):
        start = time.perf_counter()
        self.assertEqual(outcome(steady, linked_cycles(5, 7, 8, 9)), MANY)
        self.assertEqual(outcome(steady, linked_cycles(5, 6, 7, 11)), MANY)
        for sizes, told in (((4, 5, 9, 11), 1980), ((5, 7, 9, 4), 1260), ((8, 9, 5, 5), 360)):
            machine = linked_cycles(*sizes)
            self.assertLess(len(turnings(machine)), 600)
            s, pairs = steady(machine)
            self.assertEqual(s, told)
            for own, string in pairs[::50]:
                self.assertEqual((len(string), told_turning(machine, string)), (s, own))
        self.assertLess(time.perf_counter() - start, 60)

    def test_lots_of_two_thousand_and_a_great_s(self):
        start = time.perf_counter()
        still = list(range(15))
        around = [own + [15 + q for q in cycles(9)] for own in (FIRST, SECOND, still, still)]
        s, pairs = steady(machine_of_moves(around))
        self.assertEqual((s % 9, len(pairs)), (0, 2000))
        for own, string in pairs[::100]:
            self.assertEqual((len(string), told_turning(machine_of_moves(around), string)), (s, own))
        self.assertLess(time.perf_counter() - start, 60)

    def test_the_lot_is_kept(self):
        rng = seeded(284)
        for _ in range(30):
            machine = random_machine(rng, 1, rng.randint(1, 4))
            s, pairs = steady(machine)
            lot = {own for own, _ in pairs}
            for a, b in itertools.product(lot, repeat=2):
                self.assertIn(tuple([b[state] for state in a]), lot)
            for own, string in pairs:
                self.assertEqual((len(string), turning(machine, string)), (s, own))

    def test_least_machines_have_no_greater_s(self):
        rng = seeded(285)
        for _ in range(60):
            machine = random_machine(rng, 1, rng.randint(2, 4))
            names = [0] + rng.sample(range(1, len(machine[1])), len(machine[1]) - 1)
            self.assertEqual(steady(renamed(machine, names))[0], steady(machine)[0])
            if len({q for q in range(len(machine[1])) if q in come_to(machine)}) == len(machine[1]):
                self.assertLessEqual(steady(least(machine))[0], steady(machine)[0])


def come_to(machine):
    found = [0]
    for q in found:
        found.extend([state for state in {own for own, _ in machine[1][q]} if state not in found])
    return found


if __name__ == "__main__":
    unittest.main()
