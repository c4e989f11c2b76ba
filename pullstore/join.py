"""The join of two states of all logs."""

from pullstore.errors import Apart
from pullstore.logs import begins_with, check_logs


def join_logs(cluster, one, other):
    """The longer of the two logs at each replica, which must be comparable."""
    first = check_logs(cluster, one)
    second = check_logs(cluster, other)
    joined = []
    for replica, log in enumerate(first):
        shorter, longer = sorted([log, second[replica]], key=len)
        if not begins_with(longer, shorter):
            raise Apart(replica)
        joined.append(longer)
    return joined
