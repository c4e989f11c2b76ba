"""Finishing logs: on a strong net they can always become full."""

from pullstore.logs import check_logs, unwritten
from pullstore.paths import check_strong
from pullstore.run import replay
from pullstore.settle import settle


def finish(cluster, logs):
    """The trace that finishes the logs: the writes that are left, then the pulls that settle them."""
    check_strong(cluster.net)
    held = check_logs(cluster, logs)
    writes = [("write", entry) for entry in unwritten(cluster, held)]
    return writes + settle(cluster, replay(cluster, held, writes))


def finished_logs(cluster, logs):
    """The full logs after the trace that finishes the logs."""
    trace = finish(cluster, logs)
    return replay(cluster, logs, trace)
