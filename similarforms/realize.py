"""Recurrences of the outputs of a plant, minimal realizations, and changes from a plant to another one."""

from similarforms.errors import Malformed, Refused
from similarforms.matrix import companion
from similarforms.minimal import first_relation, krylov
from similarforms.plant import Plant
from similarforms.reach import is_reachable


def least_recurrence(plant):
    """Return the monic recurrence of the Markov parameters of least degree."""
    n = plant.size()
    parameters = plant.outputs(_impulse(2 * n))
    # Two times the size is enough: from there on the sums are told by the n sums before.
    return first_relation(plant.a.ground, [parameters[k:k + n] for k in range(n + 1)])


def minimal_realization(plant):
    """Return the plant of the least size with the same outputs whose matrix is the companion of the recurrence."""
    f = least_recurrence(plant)
    row = _impulse(f.degree())
    return Plant(companion(f), row, plant.outputs(row))


def same_outputs(one, two):
    """Return True if all Markov parameters are equal; raise Malformed if the grounds are unlike."""
    _require_one_ground(one, two)
    inputs = _impulse(one.size() + two.size())
    return one.outputs(inputs) == two.outputs(inputs)


def state_change(one, two):
    """Return the Matrix `P` with `one.changed(P) == two`, or None if there is none.

    Raises Malformed if the grounds are unlike, then Refused("reach") if `one` is not reachable.
    """
    _require_one_ground(one, two)
    if not is_reachable(one):
        raise Refused("reach")
    # A change keeps the size, and a reachable plant reachable.
    if one.size() != two.size() or not is_reachable(two):
        return None
    # No other matrix takes the images of the second row to those of the first one.
    p = krylov(two.a, two.b).inverse() * krylov(one.a, one.b)
    return p if one.changed(p) == two else None


def _impulse(length):
    """Return the inputs 1, 0, .., 0, whose outputs are the first Markov parameters."""
    return [1 if k == 0 else 0 for k in range(length)]


def _require_one_ground(one, two):
    if one.a.ground != two.a.ground:
        raise Malformed("the grounds are unlike")
