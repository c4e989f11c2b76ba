"""Choices: one entry for each replica."""

from pullstore.errors import InvalidChoices
from pullstore.paths import reach_within


def check_choices(cluster, choices):
    """Raises InvalidChoices if there is not one entry for each replica."""
    if len(choices) != cluster.net.count:
        raise InvalidChoices(None)
    for replica, choice in enumerate(choices):
        if choice not in range(cluster.size):
            raise InvalidChoices(replica)


def named_entries(choices):
    """The entries that the choices name."""
    return sorted(set(choices))


def least_unreached(cluster, choices, suppliers):
    """The least replica to which its choice cannot come, or None.

    For each named entry there is a supplier, an entry. The choice of a replica comes from the home of
    the supplier, along links between replicas that make the same choice.
    """
    reached = []
    for entry in named_entries(choices):
        choosers = [replica for replica, choice in enumerate(choices) if choice == entry]
        reached.extend(reach_within(cluster.net, [cluster.home_of(suppliers[entry])], choosers))
    return min([replica for replica in range(cluster.net.count) if replica not in reached], default=None)
