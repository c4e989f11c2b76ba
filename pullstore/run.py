"""Actions, what is allowed, and the runs of traces."""

from pullstore.errors import BadTrace, NotAllowed, UnknownRule
from pullstore.logs import check_logs, is_unwritten, unwritten
from pullstore.net import check_link

FIRST = "first"
ANY = "any"


def offers(cluster, logs, source, reader, *, rule=FIRST):
    """The entries on offer at the link, in the order of the source's log."""
    held = check_logs(cluster, logs)
    check_rule(rule)
    check_link(cluster.net, source, reader)
    return on_offer(held[source], held[reader], rule)


def check_rule(rule):
    """Raises UnknownRule if there is no such rule."""
    if rule not in (FIRST, ANY):
        raise UnknownRule(rule)


def on_offer(source_log, reader_log, rule):
    """The entries of the source's log that the rule offers to the reader."""
    news = [entry for entry in source_log if entry not in reader_log]
    if rule == FIRST:
        return news[:1]
    return news


def is_allowed(cluster, logs, action, rule):
    """Whether the action is allowed in these logs, which are checked already."""
    match action:
        case ("write", entry):
            return entry in range(cluster.size) and is_unwritten(logs, entry)
        case ("pull", source, reader, entry):
            if not cluster.net.has_link(source, reader):
                return False
            return entry in on_offer(logs[source], logs[reader], rule)
    return False


def place_of(cluster, action):
    """The replica to whose log the action appends its entry."""
    if action[0] == "write":
        return cluster.home_of(action[1])
    return action[2]


def entry_of(action):
    """The entry that the action appends."""
    return action[-1]


def allowed_actions(cluster, logs, *, rule=FIRST):
    """All allowed actions: the writes, then the pulls link by link."""
    held = check_logs(cluster, logs)
    check_rule(rule)
    actions = [("write", entry) for entry in unwritten(cluster, held)]
    for source, reader in cluster.net.links:
        for entry in on_offer(held[source], held[reader], rule):
            actions.append(("pull", source, reader, entry))
    return actions


def apply_action(cluster, logs, action, *, rule=FIRST):
    """The logs after the action."""
    held = check_logs(cluster, logs)
    check_rule(rule)
    if not is_allowed(cluster, held, action, rule):
        raise NotAllowed(action)
    held[place_of(cluster, action)].append(entry_of(action))
    return held


def replay(cluster, start, trace, *, rule=FIRST):
    """The logs after the whole trace."""
    held = check_logs(cluster, start)
    for logs in each_state(cluster, start, trace, rule=rule):
        held = logs
    return held


def each_state(cluster, start, trace, *, rule=FIRST):
    """Yields the logs after each action of the trace."""
    held = check_logs(cluster, start)
    check_rule(rule)
    for index, action in enumerate(trace):
        if not is_allowed(cluster, held, action, rule):
            raise BadTrace(index)
        held[place_of(cluster, action)].append(entry_of(action))
        # A copy, so that the caller may change what was yielded.
        yield [list(log) for log in held]
