"""Leading logs to a goal in rounds, so that each entry comes as early as possible."""

from pullstore.audit import check_reachable
from pullstore.carry import ahead_masks, link_carries
from pullstore.logs import check_logs, is_unwritten
from pullstore.run import entry_of, place_of


def earliest_rounds(cluster, start, goal):
    """For each replica the earliest round of each entry of its log in the goal."""
    rounds = round_schedule(cluster, start, goal)
    # What the start has comes first in each log of the goal; its earliest round is 0.
    found = [[0] * len(log) for log in start]
    for index, actions in enumerate(rounds):
        for action in actions:
            found[place_of(cluster, action)].append(index + 1)
    return found


def round_schedule(cluster, start, goal):
    """The rounds from the start to the goal that append each entry in its earliest round."""
    now = check_logs(cluster, start)
    after = check_logs(cluster, goal)
    check_reachable(cluster, now, after)
    masks = ahead_masks(after)
    rounds = []
    # Before the round at index k, the logs have exactly the entries whose earliest round is at most k.
    while now != after:
        actions = ready_actions(cluster, now, after, masks)
        for action in actions:
            now[place_of(cluster, action)].append(entry_of(action))
        rounds.append(actions)
    return rounds


def ready_actions(cluster, now, goal, masks):
    """For each place whose next entry can come now, the action that appends it there."""
    found = []
    for place, log in enumerate(goal):
        if len(now[place]) < len(log):
            action = ready_action(cluster, now, masks, place, log[len(now[place])])
            if action is not None:
                found.append(action)
    return found


def ready_action(cluster, now, masks, place, entry):
    """The action that appends the next entry at this place, or None if it cannot come yet."""
    if cluster.home_of(entry) == place and is_unwritten(now, entry):
        return ("write", entry)
    for source in cluster.net.sources(place):
        if entry in now[source] and link_carries(masks, source, place, entry):
            return ("pull", source, place, entry)
    return None
