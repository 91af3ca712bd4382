"""Values and data from their leaves on."""


def folded(root, parts_of, made_of):
    """What a tree comes to where each node is made of what its parts came to.

    What is left stands in a list in place of recursion, for trees may be deeper than calls.
    """
    left = [(root, None)]
    done = []
    while left:
        node, parts = left.pop()
        if parts is None:
            parts = parts_of(node)
            left.append((node, parts))
            left.extend([(part, None) for part in parts[::-1]])
        else:
            # What its parts came to stands last.
            at = len(done) - len(parts)
            made = made_of(node, done[at:])
            done[at:] = [made]
    return done[0]
