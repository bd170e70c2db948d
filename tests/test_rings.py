"""Points 11 to 13 of the document, and the interface of rings."""

import itertools
import unittest

from onechange.errors import NoMove, NoState, TooFar
from onechange.rings import moved, moves, number, way
from onechange.switches import Switches
from tests.cases import FAR_NUMBERS, RefusalCase, some_numbers

LONG_LENGTHS = range(41, 61)
RINGS_THAT_ARE_NONE = (-1, -2, -40, 40, 41, 60, 100) + FAR_NUMBERS


def all_states(rings):
    return [list(state) for state in itertools.product((False, True), repeat=rings)]


def small_states():
    return [state for rings in range(7) for state in all_states(rings)]


def state_at(rings, place):
    """The state with this number, by the words of points 3 and 12."""
    if rings == 0:
        return []
    half = 2 ** (rings - 1)
    if place < half:
        return state_at(rings - 1, place) + [False]
    return state_at(rings - 1, 2 * half - 1 - place) + [True]


def states_of_40():
    states = [state_at(40, place) for place in some_numbers(2 ** 40)]
    states += [[True] * 40, [False] * 40, [True, False] * 20, [False, True] * 20]
    for ring in range(40):
        states.append([other == ring for other in range(40)])
        states.append([other >= ring for other in range(40)])
    return states


def can_be_moved(state, ring):
    """By the words of point 11."""
    if ring == 0:
        return len(state) > 0
    before = ring - 1
    return 0 < ring < len(state) and state[before] and not any(state[:before])


def switch_list(state):
    return [1 if on else 0 for on in state]


class MovesTest(RefusalCase):
    def test_written_by_hand(self):
        self.assertEqual(moves([]), [])
        self.assertEqual(moves([False]), [0])
        self.assertEqual(moves([True]), [0])
        self.assertEqual(moves([False, False]), [0])
        self.assertEqual(moves([True, False]), [0, 1])
        self.assertEqual(moves([True, True]), [0, 1])
        self.assertEqual(moves([False, True]), [0])
        self.assertEqual(moves([False, True, False]), [0, 2])
        self.assertEqual(moves([False, True, True]), [0, 2])
        self.assertEqual(moves([True, True, True]), [0, 1])
        self.assertEqual(moves([False, False, True]), [0])
        self.assertEqual(moves([False] * 38 + [True, False]), [0, 39])
        self.assertEqual(moves([False] * 39 + [True]), [0])
        self.assertEqual(moves([False] * 40), [0])

    def test_ring_by_ring(self):
        for state in small_states() + states_of_40():
            rings = [ring for ring in range(len(state)) if can_be_moved(state, ring)]
            self.assertEqual(moves(state), rings)
            self.assertIs(type(moves(state)), list)
            self.assertEqual({type(ring) for ring in moves(state)} - {int}, set())

    def test_name_of_the_argument(self):
        self.assertEqual(moves(state=[True, False]), [0, 1])

    def test_longer_lists_are_refused(self):
        for length in LONG_LENGTHS:
            for on in (False, True):
                self.refused(NoState, moves, [on] * length)


class MovedTest(RefusalCase):
    def test_written_by_hand(self):
        self.assertEqual(moved([False], 0), [True])
        self.assertEqual(moved([True], 0), [False])
        self.assertEqual(moved([True, False, False], 1), [True, True, False])
        self.assertEqual(moved([False, True, True], 2), [False, True, False])
        self.assertEqual(moved([False] * 38 + [True, False], 39), [False] * 38 + [True, True])

    def test_just_that_ring_is_otherwise(self):
        for state in small_states() + states_of_40():
            for ring in range(len(state)):
                if can_be_moved(state, ring):
                    told = moved(state, ring)
                    self.assertIs(type(told), list)
                    self.assertEqual(len(told), len(state))
                    self.assertEqual([type(on) for on in told], [bool] * len(state))
                    unlike = [other for other in range(len(state)) if told[other] != state[other]]
                    self.assertEqual(unlike, [ring])
                    self.assertEqual(moved(told, ring), state)

    def test_every_other_ring_is_refused(self):
        for state in small_states() + states_of_40():
            for ring in range(len(state)):
                if not can_be_moved(state, ring):
                    self.refused(NoMove, moved, state, ring)
            for ring in (len(state), len(state) + 1, -len(state) - 1) + RINGS_THAT_ARE_NONE:
                self.refused(NoMove, moved, state, ring)

    def test_of_no_rings_there_is_no_move(self):
        for ring in (0, 1) + RINGS_THAT_ARE_NONE:
            self.refused(NoMove, moved, [], ring)

    def test_names_of_the_arguments(self):
        self.assertEqual(moved(ring=1, state=[True, False]), [True, True])

    def test_longer_lists_are_refused_ahead_of_no_move(self):
        for length in LONG_LENGTHS:
            for on in (False, True):
                for ring in (0, 1, 2, length - 1, length) + RINGS_THAT_ARE_NONE:
                    self.refused(NoState, moved, [on] * length, ring)


class NumberTest(RefusalCase):
    def test_written_by_hand(self):
        self.assertEqual(number([]), 0)
        self.assertEqual([number([False]), number([True])], [0, 1])
        listed = [[False, False], [True, False], [True, True], [False, True]]
        self.assertEqual([number(state) for state in listed], [0, 1, 2, 3])
        self.assertEqual(number([True] * 3), 5)
        self.assertEqual(number([True] * 40), 733007751850)
        self.assertEqual(number([False] * 39 + [True]), 2 ** 40 - 1)

    def test_as_switches_tell(self):
        for state in small_states() + states_of_40():
            self.assertEqual(number(state), Switches(len(state)).number_of(switch_list(state)))
            self.assertIs(type(number(state)), int)

    def test_by_the_words(self):
        for rings in list(range(7)) + [13, 39, 40]:
            for place in some_numbers(2 ** rings):
                self.assertEqual(number(state_at(rings, place)), place)

    def test_a_move_makes_it_one_more_or_one_less(self):
        for state in small_states() + states_of_40():
            last = 2 ** len(state) - 1
            place = number(state)
            behind = sorted(number(moved(state, ring)) for ring in moves(state))
            beside = [other for other in (place - 1, place + 1) if 0 <= other <= last]
            self.assertEqual(behind, beside)

    def test_how_many_can_be_moved(self):
        for state in small_states() + states_of_40():
            if state:
                at_an_end = number(state) in (0, 2 ** len(state) - 1)
                self.assertEqual(len(moves(state)), 1 if at_an_end else 2)
        for rings in range(1, 41):
            self.assertEqual(len(moves([False] * rings)), 1)
            self.assertEqual(len(moves([False] * (rings - 1) + [True])), 1)

    def test_name_of_the_argument(self):
        self.assertEqual(number(state=[True, True]), 2)

    def test_longer_lists_are_refused(self):
        for length in LONG_LENGTHS:
            for on in (False, True):
                self.refused(NoState, number, [on] * length)


class WayTest(RefusalCase):
    def leads(self, state, other):
        """The way leads there, is as long as the numbers lie apart, and is turned about on the way back."""
        rings = way(state, other)
        self.assertIs(type(rings), list)
        self.assertEqual({type(ring) for ring in rings} - {int}, set())
        self.assertEqual(len(rings), abs(number(state) - number(other)))
        here = list(state)
        for ring in rings:
            here = moved(here, ring)
        self.assertEqual(here, other)
        self.assertEqual(way(other, state), rings[::-1])

    def test_written_by_hand(self):
        self.assertEqual(way([], []), [])
        self.assertEqual(way([False], [True]), [0])
        self.assertEqual(way([True], [False]), [0])
        self.assertEqual(way([False] * 3, [False, False, True]), [0, 1, 0, 2, 0, 1, 0])
        self.assertEqual(way([True] * 3, [False] * 3), [0, 2, 0, 1, 0])
        self.assertEqual(way([False] * 3, [True] * 3), [0, 1, 0, 2, 0])
        self.assertEqual(way([True, False, False], [False, True, False]), [1, 0])

    def test_between_all_small_states(self):
        for rings in range(7):
            for state in all_states(rings):
                for other in all_states(rings):
                    self.leads(state, other)

    def test_from_a_state_to_itself(self):
        for state in small_states() + states_of_40():
            self.assertEqual(way(state, list(state)), [])
            self.assertEqual(way(state, state), [])

    def test_up_to_500(self):
        for rings in (9, 10, 20, 39, 40):
            for apart in (1, 2, 3, 255, 256, 257, 499, 500):
                for place in some_numbers(2 ** rings - apart):
                    self.leads(state_at(rings, place), state_at(rings, place + apart))

    def test_of_501_and_more(self):
        for rings in (9, 10, 20, 39, 40):
            for apart in (501, 502, 511, 1000, 2 ** 20, 2 ** 38, 2 ** 39, 2 ** 40 - 1):
                if apart < 2 ** rings:
                    for place in some_numbers(2 ** rings - apart):
                        state, other = state_at(rings, place), state_at(rings, place + apart)
                        self.refused_at_once(TooFar, way, state, other)
                        self.refused_at_once(TooFar, way, other, state)

    def test_at_once(self):
        first, last = [False] * 40, [False] * 39 + [True]
        for state, other in ((first, last), (last, first), (first, [True] * 40), ([True] * 40, last)):
            self.refused_at_once(TooFar, way, state, other)
        half = 2 ** 39
        rings = self.told_at_once(way, state_at(40, half - 250), state_at(40, half + 250))
        self.assertEqual(len(rings), 500)
        self.assertEqual(rings[249], 39)

    def test_names_of_the_arguments(self):
        self.assertEqual(way(other=[False, True, False], state=[True, False, False]), [1, 0])

    def test_unlike_lengths(self):
        lengths = (0, 1, 2, 3, 9, 10, 39, 40, 41, 42, 60)
        for length in lengths:
            for other in lengths:
                if length != other:
                    self.refused(NoState, way, [False] * length, [False] * other)
                    # Their numbers lie far apart, too.
                    self.refused(NoState, way, [False] * length, [True] * other)
                    self.refused(NoState, way, [True] * length, [False] * other)

    def test_longer_lists_are_refused(self):
        for length in LONG_LENGTHS:
            self.refused(NoState, way, [False] * length, [False] * length)
            self.refused(NoState, way, [False] * length, [True] * length)
            self.refused(NoState, way, [False] * 40, [False] * length)
            self.refused(NoState, way, [False] * length, [False] * 40)


if __name__ == "__main__":
    unittest.main()
