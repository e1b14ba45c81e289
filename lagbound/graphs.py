"""Nodes and edges: what is reached, and what lies on common loops.

Edges are told by a dict that holds for a node the list of the nodes that edges lead to; a node without edges may be
missing in it.
"""


def all_reached(starts, onward):
    """The starts and all nodes that edges lead to from there, as a dict of True."""
    reached = {node: True for node in starts}
    waiting = list(reached)
    while waiting:
        node = waiting.pop()
        for after in onward.get(node, []):
            if after not in reached:
                reached[after] = True
                waiting.append(after)
    return reached


def edge_table(edges):
    """The edges from the first to the second node of each pair, as such a dict."""
    table = {}
    for source, target in edges:
        table.setdefault(source, []).append(target)
    return table


def leaving_order(nodes, onward):
    """The nodes in the order in which a search in depth leaves them."""
    entered = {}
    order = []
    for start in nodes:
        # The current way, and for each node of it how many of its edges were taken.
        way = [] if start in entered else [(start, 0)]
        entered[start] = True
        while way:
            node, taken = way.pop()
            targets = onward.get(node, [])
            if taken == len(targets):
                order.append(node)
                continue
            way.append((node, taken + 1))
            target = targets[taken]
            if target not in entered:
                entered[target] = True
                way.append((target, 0))
    return order


def loop_groups(nodes, onward):
    """For each node a number: two nodes have the same one exactly if edges lead from each of them to the other."""
    backward = edge_table([(target, node) for node in nodes for target in onward.get(node, [])])
    groups = {}
    for start in reversed(leaving_order(nodes, onward)):
        # Among the nodes without a number, only those of its own group lead to a node that is left last.
        waiting = [] if start in groups else [start]
        number = len(groups)
        while waiting:
            node = waiting.pop()
            if node not in groups:
                groups[node] = number
                waiting.extend(list(backward.get(node, [])))
    return groups
