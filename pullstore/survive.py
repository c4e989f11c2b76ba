"""Disk runs, and which of their appends survive the crashes."""

from pullstore.diskstore import DiskStore
from pullstore.errors import BadTrace
from pullstore.run import entry_of, place_of


def run_disk(cluster, start, history):
    """The disk store after the history."""
    store = DiskStore(cluster, start)
    for index, action in enumerate(history):
        if not store.allows(action):
            raise BadTrace(index)
        store.do(action)
    return store


def surviving(cluster, start, history):
    """The trace of the appends of the history that survive, in their order."""
    logs = run_disk(cluster, start, history).logs
    # Backwards, because the latest append of an entry to a log is the one that survives.
    met = set()
    found = []
    for action in reversed(history):
        if action[0] not in ("write", "pull"):
            continue
        place = place_of(cluster, action)
        entry = entry_of(action)
        if (place, entry) not in met and entry in logs[place]:
            found.append(action)
        met.add((place, entry))
    return list(reversed(found))
