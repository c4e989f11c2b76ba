"""All errors that the program raises. Their attributes are the arguments of the constructor."""


class StoreError(ValueError):
    """The base class of all errors of the program."""


class InvalidNet(StoreError):
    """The count is out of range (link is None), or this is the first pair that is not a link."""

    def __init__(self, link):
        self.link = link


class InvalidHomes(StoreError):
    """There are too many entries (entry is None), or this is the least one with a wrong home."""

    def __init__(self, entry):
        self.entry = entry


class InvalidLogs(StoreError):
    """The number of logs is wrong (replica is None), or this is the least replica with a wrong log."""

    def __init__(self, replica):
        self.replica = replica


class UnknownReplica(StoreError):
    """The net has no such replica."""

    def __init__(self, replica):
        self.replica = replica


class UnknownEntry(StoreError):
    """The cluster has no such entry."""

    def __init__(self, entry):
        self.entry = entry


class UnknownRule(StoreError):
    """There is no such rule."""

    def __init__(self, rule):
        self.rule = rule


class NotLinked(StoreError):
    """The net does not have this link."""

    def __init__(self, source, reader):
        self.source = source
        self.reader = reader


class NotTree(StoreError):
    """The net is not a tree."""


class NotStrong(StoreError):
    """The net is not strong."""


class NotRing(StoreError):
    """The net is not a ring."""


class NotComplete(StoreError):
    """The net is not complete."""


class NotHeld(StoreError):
    """The replica does not hold the entry."""

    def __init__(self, replica, entry):
        self.replica = replica
        self.entry = entry


class NotPrefix(StoreError):
    """The least replica whose log in the start is not a prefix of its log in the goal."""

    def __init__(self, replica):
        self.replica = replica


class NotFull(StoreError):
    """The least replica that lacks an entry."""

    def __init__(self, replica):
        self.replica = replica


class NotAllowed(StoreError):
    """The action is not allowed."""

    def __init__(self, action):
        self.action = action


class BadTrace(StoreError):
    """The index of the first action that is not allowed."""

    def __init__(self, index):
        self.index = index


class BadOrder(StoreError):
    """The first position at which an order is wrong."""

    def __init__(self, position):
        self.position = position


class Unreachable(StoreError):
    """No run leads to the goal, as the evidence shows."""

    def __init__(self, evidence):
        self.evidence = evidence


class NotFitting(StoreError):
    """The action does not fit the goal."""

    def __init__(self, action):
        self.action = action


class Apart(StoreError):
    """The least replica whose two logs are not comparable."""

    def __init__(self, replica):
        self.replica = replica


class InvalidTable(StoreError):
    """The least pair for which an order table has no code, or an impossible one."""

    def __init__(self, first, second):
        self.first = first
        self.second = second


class CyclicTable(StoreError):
    """The least replica at which an order table gives no order, and three entries in a circle there."""

    def __init__(self, replica, triple):
        self.replica = replica
        self.triple = triple


class InvalidChoices(StoreError):
    """The number of choices is wrong (replica is None), or this is the least replica with a wrong one."""

    def __init__(self, replica):
        self.replica = replica


class TooMany(StoreError):
    """The choices name this many different entries, more than the function can answer."""

    def __init__(self, count):
        self.count = count


class ImpossibleChoices(StoreError):
    """The choices are not possible, for this fault."""

    def __init__(self, fault):
        self.fault = fault


class InvalidDepths(StoreError):
    """The depths have this fault."""

    def __init__(self, fault):
        self.fault = fault


class FreeFault(StoreError):
    """The logs have this fault under the rule ANY."""

    def __init__(self, fault):
        self.fault = fault


class InvalidData(StoreError):
    """The number of keys or values is wrong (entry is None), or this is the least entry with a wrong one."""

    def __init__(self, entry):
        self.entry = entry


class NoGoal(StoreError):
    """There is no goal."""


class NothingToUndo(StoreError):
    """No action is left to undo."""


class NothingToRedo(StoreError):
    """No action is left to redo."""
