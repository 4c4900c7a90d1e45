"""Searches from a start over all EVENTs, those with few of them first.

A node is what a PLAY leads to, for example a STATE. nexts tells the list of
the pairs (EVENT, node behind it) of a node.
"""


def found_from(ways, start, nexts, wanted):
    """The first node behind the start that is wanted, or None; ways gets the way to each node."""
    ways[start] = None
    nodes = [start]
    number = 0
    while number < len(nodes):
        node = nodes[number]
        for event, after in nexts(node):
            if after not in ways:
                ways[after] = (node, event)
                if wanted(after):
                    return after
                nodes.append(after)
        number += 1
    return None


def play_to(ways, node):
    """The PLAY that leads to a node that was found."""
    events = []
    way = ways[node]
    while way is not None:
        before, event = way
        events.append(event)
        way = ways[before]
    return tuple(events[::-1])


def shortest(start, nexts, wanted):
    """A PLAY with as few EVENTs as any to a node that is wanted, or None."""
    if wanted(start):
        return ()
    ways = {}
    found = found_from(ways, start, nexts, wanted)
    return None if found is None else play_to(ways, found)


def all_nodes(start, nexts):
    """The list of all nodes to which PLAYs lead."""
    ways = {}
    found_from(ways, start, nexts, lambda node: False)
    return list(ways)
