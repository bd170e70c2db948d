"""Rings on a bar: which can be moved, the number of a state, and the way from a state to another one."""

from onechange.errors import NoMove, NoState, TooFar
from onechange.switches import Switches

MOST_RINGS = 40
LONGEST_WAY = 500


def check_state(state):
    if len(state) > MOST_RINGS:
        raise NoState(f"a bar has at most {MOST_RINGS} rings, not as many as in {state!r}")


def first_on(state):
    for ring, on in enumerate(state):
        if on:
            return ring
    return len(state)


def moves(state):
    check_state(state)
    second = first_on(state) + 1
    return [ring for ring in range(len(state)) if ring == 0 or ring == second]


def moved(state, ring):
    if ring not in moves(state):
        raise NoMove(f"the ring {ring} can't be moved in {state!r}")
    behind = list(state)
    behind[ring] = not behind[ring]
    return behind


def number(state):
    check_state(state)
    return Switches(len(state)).number_of([1 if on else 0 for on in state])


def way(state, other):
    if len(state) != len(other):
        raise NoState(f"{state!r} and {other!r} are of unlike lengths")
    start = number(state)
    end = number(other)
    if abs(start - end) > LONGEST_WAY:
        raise TooFar(f"the way is longer than {LONGEST_WAY}")
    # Each move goes to a neighbour in the listing, so the way leads through all things between the two.
    listing = Switches(len(state))
    rings = [listing.changed(step) for step in range(min(start, end), max(start, end))]
    if start > end:
        rings.reverse()
    return rings
