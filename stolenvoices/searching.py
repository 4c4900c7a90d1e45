"""Searches from a start over all EVENTs, those with few of them first.

A node is what a PLAY leads to, for example a STATE. nexts tells the list of
the pairs (EVENT, node behind it) of a node.
"""


def spread(ways, nodes, nexts):
    """The list of the new nodes one EVENT behind these; ways gets the way to each."""
    found = []
    for node in nodes:
        for event, after in nexts(node):
            if after not in ways:
                ways[after] = (node, event)
                found.append(after)
    return found


def play_to(ways, node):
    """The PLAY that leads to a node that was found."""
    events = []
    way = ways[node]
    while way is not None:
        before, event = way
        events.append(event)
        way = ways[before]
    return tuple(events[::-1])


def shortest(start, nexts, wanted):
    """A PLAY with as few EVENTs as any to a node that is wanted, or None."""
    ways = {start: None}
    nodes = [start]
    while nodes:
        for node in nodes:
            if wanted(node):
                return play_to(ways, node)
        nodes = spread(ways, nodes, nexts)
    return None


def all_nodes(start, nexts):
    """The list of all nodes to which PLAYs lead."""
    ways = {start: None}
    nodes = [start]
    while nodes:
        nodes = spread(ways, nodes, nexts)
    return list(ways)
