"""The causes of the actions of a run, and the orders that respect them."""

from pullstore.errors import BadOrder
from pullstore.run import entry_of, place_of, replay


def trace_causes(cluster, start, trace):
    """For each action the indexes of its causes."""
    # Only a run has causes: this raises the errors.
    replay(cluster, start, trace)
    # The latest action at each place, and the action that appended each entry there.
    latest = {}
    appended = {}
    causes = []
    for index, action in enumerate(trace):
        place = place_of(cluster, action)
        found = []
        if place in latest:
            found.append(latest[place])
        if supply_of(action) in appended:
            found.append(appended[supply_of(action)])
        causes.append(sorted(found))
        latest[place] = index
        appended[(place, entry_of(action))] = index
    return causes


def supply_of(action):
    """The pair (source, entry) that a pull needs, or None for a write."""
    if action[0] == "pull":
        return (action[1], entry_of(action))
    return None


def trace_layers(cluster, start, trace):
    """The layer of each action."""
    return layers_of(trace_causes(cluster, start, trace))


def layers_of(causes):
    """The layer of each action, from the causes of each action."""
    layers = []
    for found in causes:
        layers.append(1 + max([layers[index] for index in found], default=0))
    return layers


def longest_chain(cluster, start, trace):
    """The indexes of a longest chain of the run, from its first action to its last."""
    causes = trace_causes(cluster, start, trace)
    layers = layers_of(causes)
    if not layers:
        return []
    index = layers.index(max(layers))
    backwards = [index]
    while causes[index]:
        index = min([cause for cause in causes[index] if layers[cause] == layers[index] - 1])
        backwards.append(index)
    return backwards[::-1]


def reorder(cluster, start, trace, order):
    """The actions of the trace in another order, which must respect their causes."""
    causes = trace_causes(cluster, start, trace)
    placed = [False] * len(trace)
    for position, index in enumerate(order):
        if index not in range(len(trace)) or placed[index]:
            raise BadOrder(position)
        if not all(placed[cause] for cause in causes[index]):
            raise BadOrder(position)
        placed[index] = True
    if len(order) < len(trace):
        raise BadOrder(len(order))
    return [trace[index] for index in order]
