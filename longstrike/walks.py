"""Walks through the states of a watch, from its begin."""


def walk(watch, word):
    """Walk through a watch until the fault of this word comes (None: to the end).

    Returns the list of the fewest moves behind which the fault comes, or None if it never comes, and the dict of the
    states that were reached so far.
    """
    came = {watch.begin: None}
    layer = [watch.begin]
    while layer:
        following = []
        for state in layer:
            for move, reached, wrong in watch.steps(state):
                if wrong == word:
                    return [*_moves_to(came, state), move], came
                if reached not in came:
                    came[reached] = (state, move)
                    following.append(reached)
                    if watch.is_fault(reached, word):
                        return _moves_to(came, reached), came
        layer = following
    return None, came


def _moves_to(came, state):
    """Return the list of the moves from the begin to a state, told by the dict of (state ahead of it, move)."""
    found = []
    before = came[state]
    while before is not None:
        found.append(before[1])
        before = came[before[0]]
    return list(reversed(found))
