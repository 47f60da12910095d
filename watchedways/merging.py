"""Which states of a machine the same texts lead to an end from."""


def merged_states(moves, flags):
    """For each state the number of its class, numbered in the order of their first states.

    The states that are ends have the flag True. Classes are split by one another until all
    states of a class go on alike; the lesser part of each that is split is what still
    has to split others, so that long rows of states take no long time.
    """
    classes = first_classes(flags)
    class_of = class_of_each(classes, len(moves))
    ahead = states_ahead(moves)
    waiting = list(range(len(classes)))
    while waiting:
        states = list(classes[waiting.pop()])
        for earlier in ahead:
            split_by(states, earlier, classes, class_of, waiting)
    numbers = {}
    return [numbers.setdefault(name, len(numbers)) for name in class_of]


def first_classes(flags):
    """The states with and those without the flag, each a dict of True; none of them empty."""
    parts = [{}, {}]
    for state, flag in enumerate(flags):
        parts[1 if flag else 0][state] = True
    return [part for part in parts if part]


def class_of_each(classes, many):
    """The list of the indexes of the classes of the states."""
    found = [0] * many
    for name, states in enumerate(classes):
        for state in states:
            found[state] = name
    return found


def states_ahead(moves):
    """For each sign and state the list of the states from which the sign leads there."""
    ahead = [[[] for _ in moves] for _ in moves[0]]
    for state, row in enumerate(moves):
        for at, there in enumerate(row):
            ahead[at][there].append(state)
    return ahead


def split_by(states, earlier, classes, class_of, waiting):
    """Part, in each class, the states that a sign leads to these from those that it does not."""
    hit = {}
    for state in states:
        for mate in earlier[state]:
            hit.setdefault(class_of[mate], []).append(mate)
    for name, mates in hit.items():
        if len(mates) < len(classes[name]):
            fresh = len(classes)
            classes.append({})
            for mate in mates:
                del classes[name][mate]
                classes[fresh][mate] = True
                class_of[mate] = fresh
            if name in waiting or len(classes[fresh]) <= len(classes[name]):
                waiting.append(fresh)
            else:
                waiting.append(name)
