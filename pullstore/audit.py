"""Whether a run leads from one state of all logs to another, and which one."""

from pullstore.carry import ahead_masks, find_distances, find_roots, link_carries
from pullstore.errors import Unreachable
from pullstore.evidence import Barrier, PrefixFault, Schedule
from pullstore.logs import begins_with, check_logs, missing_pairs, prefix_break
from pullstore.run import FIRST, allowed_actions, entry_of, is_allowed, place_of


def audit(cluster, start, goal):
    """A schedule from the start to the goal, or evidence that there is none."""
    before = check_logs(cluster, start)
    after = check_logs(cluster, goal)
    obstacle = find_obstacle(cluster, before, after)
    if obstacle is not None:
        return obstacle
    return Schedule(planned_actions(cluster, before, after, missing_pairs(cluster, before, after)))


def reachable(cluster, start, goal):
    """Whether a run leads from the start to the goal."""
    before = check_logs(cluster, start)
    after = check_logs(cluster, goal)
    return find_obstacle(cluster, before, after) is None


def plan(cluster, start, goal):
    """The plan from the start to the goal."""
    found = audit(cluster, start, goal)
    if not isinstance(found, Schedule):
        raise Unreachable(found)
    return found.trace


def check_reachable(cluster, start, goal):
    """Raises Unreachable if no run leads from the start to the goal, which are checked already."""
    obstacle = find_obstacle(cluster, start, goal)
    if obstacle is not None:
        raise Unreachable(obstacle)


def find_obstacle(cluster, before, after):
    """Evidence that no run leads from these logs to those after, or None."""
    replica = prefix_break(before, after)
    if replica is not None:
        return PrefixFault(replica)
    masks = ahead_masks(after)
    for entry in range(cluster.size):
        distances = entry_distances(cluster, before, after, masks, entry)
        if any(entry in log and distances[place] is None for place, log in enumerate(after)):
            return Barrier(entry, [place for place, steps in enumerate(distances) if steps is not None])
    return None


def entry_distances(cluster, before, after, masks, entry):
    """The carry distance of the entry for each replica; the masks are those of the logs after."""
    roots = find_roots(cluster, before, after, entry)
    return find_distances(cluster.net, roots, masks, entry)


def planned_actions(cluster, before, after, pairs):
    """The actions of the plan for these missing pairs, in the order of the plan."""
    masks = ahead_masks(after)
    distances = {}
    steps = []
    for replica, entry in pairs:
        if entry not in distances:
            distances[entry] = entry_distances(cluster, before, after, masks, entry)
        steps.append((after[replica].index(entry), distances[entry][replica], replica, entry))
    trace = []
    for _, distance, replica, entry in sorted(steps):
        if distance == 0:
            trace.append(("write", entry))
        else:
            source = planned_source(cluster.net, distances[entry], masks, replica, entry)
            trace.append(("pull", source, replica, entry))
    return trace


def planned_source(net, distances, masks, reader, entry):
    """The least source that carries the entry to the reader and is one link nearer to a root."""
    for source in net.sources(reader):
        if distances[source] == distances[reader] - 1 and link_carries(masks, source, reader, entry):
            return source
    return None


def next_planned(cluster, now, goal):
    """The first action of the plan from these logs to a reachable goal, or None if nothing is missing."""
    # The plan begins with a pair that has the fewest entries ahead: one at the shortest open logs.
    places = [replica for replica, log in enumerate(goal) if len(now[replica]) < len(log)]
    fewest = min([len(now[replica]) for replica in places], default=0)
    pairs = [(replica, goal[replica][fewest]) for replica in places if len(now[replica]) == fewest]
    trace = planned_actions(cluster, now, goal, pairs)
    if not trace:
        return None
    return trace[0]


def fits(cluster, now, goal, action):
    """Whether the action fits the goal in these logs."""
    held = check_logs(cluster, now)
    after = check_logs(cluster, goal)
    return is_allowed(cluster, held, action, FIRST) and leads_on(cluster, held, after, action)


def leads_on(cluster, now, goal, action):
    """Whether the logs that the action leaves are a prefix of the goal; the action is allowed."""
    if prefix_break(now, goal) is not None:
        return False
    place = place_of(cluster, action)
    return begins_with(goal[place], now[place] + [entry_of(action)])


def fitting_actions(cluster, now, goal):
    """The actions that fit the goal in these logs, in the order of all allowed actions."""
    held = check_logs(cluster, now)
    after = check_logs(cluster, goal)
    return [action for action in allowed_actions(cluster, held) if leads_on(cluster, held, after, action)]
