"""The tree of deeds: done, undone, done again, and any node gone to."""

from signbench.errors import NoNode
from signbench.kinds import copied, is_whole


class Tree:
    """Nodes by numbers, 0 the root; one stands at one of them."""

    def __init__(self):
        self.at = 0
        # By each node the node above it, the deed that made it, and the node
        # straight under it at which, or beneath which, one stood last.
        self.above = [None]
        self.deeds = [None]
        self.last_under = [None]

    def do(self, deed):
        """Makes a new node under the one where one stands."""
        self.above.append(self.at)
        self.deeds.append(copied(deed))
        self.last_under.append(None)
        return self.stand_at(len(self.above) - 1)

    def undo(self):
        """Leads to the node above."""
        if self.at == 0:
            raise NoNode("there is no node above the root")
        return self.stand_at(self.above[self.at])

    def again(self):
        """Leads to the node straight under it at which, or beneath which, one stood last."""
        if self.last_under[self.at] is None:
            raise NoNode("there is no node under this one")
        return self.stand_at(self.last_under[self.at])

    def go(self, number):
        """Leads to any node."""
        if not is_whole(number, 0, len(self.above) - 1):
            raise NoNode("there is no such node")
        return self.stand_at(number)

    def stand_at(self, number):
        """Stands at a node, and so beneath all nodes above it."""
        self.at = number
        while number > 0:
            self.last_under[self.above[number]] = number
            number = self.above[number]
        return self.at

    def here(self):
        """The number of the node where one stands."""
        return self.at

    def path(self):
        """The deeds on the way from the root to it."""
        found = []
        number = self.at
        while number > 0:
            found.append(copied(self.deeds[number]))
            number = self.above[number]
        found.reverse()
        return found

    def under(self):
        """The numbers of the nodes straight under it, rising."""
        return [number for number, above in enumerate(self.above) if above == self.at]
