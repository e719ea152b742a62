"""The states of a plant that inputs reach, and those that outputs do not show."""

from similarforms.linear import kernel, rank, reduced
from similarforms.minimal import column_images, krylov


def reachable_space(plant):
    """Return the reduced Matrix whose rows span the states to which inputs lead from the state 0."""
    return reduced(krylov(plant.a, plant.b))[0]


def unobservable_space(plant):
    """Return the reduced Matrix whose rows span the states from which inputs 0 lead to outputs 0 for ever."""
    return kernel(_shown_columns(plant))


def is_reachable(plant):
    """Return True if inputs lead from the state 0 to all states."""
    return len(reachable_space(plant)) == plant.size()


def is_observable(plant):
    """Return True if only the state 0 leads to outputs 0 for ever."""
    return len(unobservable_space(plant)) == 0


def four_sizes(plant):
    """Return the tuple of the four sizes of the Kalman decomposition."""
    columns = _shown_columns(plant)
    reached = krylov(plant.a, plant.b)
    # What the columns take the reachable space to is smaller by the dimension of what is unobservable in it.
    both = rank(reached * columns)
    shown = rank(columns)
    return both, len(reached) - both, shown - both, plant.size() - shown - len(reached) + both


def _shown_columns(plant):
    """Return the Matrix with the columns `c, A c, ..`, which takes a state to its outputs with inputs 0."""
    return column_images(plant.a, plant.c, plant.size())
