"""Nets: replicas, and the links along which readers pull from sources."""

from pullstore.errors import InvalidNet, NotLinked, UnknownReplica


class Net:
    """A net of `count` replicas. A link is a pair (source, reader)."""

    MOST = 24

    def __init__(self, count, links):
        check_count(count)
        for link in links:
            check_pair(count, link)
        self.count = count
        self._links = {link: True for link in sorted(set(links))}

    @classmethod
    def both_ways(cls, count, pairs):
        """The net with both links of each pair."""
        links = []
        for x, y in pairs:
            links.append((x, y))
            links.append((y, x))
        return cls(count, links)

    @classmethod
    def line(cls, count):
        """The two-way net in which each replica is linked to the next one."""
        check_count(count)
        return cls.both_ways(count, [(x, x + 1) for x in range(count - 1)])

    @classmethod
    def star(cls, count):
        """The two-way net in which 0 is linked to each other replica."""
        check_count(count)
        return cls.both_ways(count, [(0, x) for x in range(1, count)])

    @classmethod
    def complete(cls, count):
        """The net in which any two replicas are linked."""
        check_count(count)
        return cls(count, [(x, y) for x in range(count) for y in range(count) if x != y])

    @classmethod
    def ring(cls, count):
        """The net in which each replica is read by the next one, and the last by 0."""
        check_count(count)
        if count == 1:
            return cls(count, [])
        return cls(count, [(x, (x + 1) % count) for x in range(count)])

    @property
    def links(self):
        """The list of all links."""
        return list(self._links)

    def sources(self, reader):
        """The replicas from which the reader may pull."""
        check_replica(self, reader)
        return [source for source in range(self.count) if (source, reader) in self._links]

    def readers(self, source):
        """The replicas that may pull from the source."""
        check_replica(self, source)
        return [reader for reader in range(self.count) if (source, reader) in self._links]

    def has_link(self, source, reader):
        """Whether the net has this link."""
        return (source, reader) in self._links

    def with_link(self, source, reader):
        """A new net that also has this link."""
        return Net(self.count, self.links + [(source, reader)])

    def without_link(self, source, reader):
        """A new net without this link."""
        check_link(self, source, reader)
        return Net(self.count, [link for link in self.links if link != (source, reader)])


def check_count(count):
    """Raises InvalidNet if a net cannot have so many replicas."""
    # The named nets call this before they list their links: a count may have 30 digits.
    if count not in range(1, Net.MOST + 1):
        raise InvalidNet(None)


def check_pair(count, link):
    """Raises InvalidNet if the pair is not a link between two of so many replicas."""
    source, reader = link
    if source == reader or source not in range(count) or reader not in range(count):
        raise InvalidNet(link)


def check_replica(net, replica):
    """Raises UnknownReplica if the net has no such replica."""
    if replica not in range(net.count):
        raise UnknownReplica(replica)


def check_link(net, source, reader):
    """Raises NotLinked if the net does not have this link."""
    if not net.has_link(source, reader):
        raise NotLinked(source, reader)
