"""Where runs go on quietly for ever, and how deep quiet calls lie in each other (points 30 and 41)."""


def quiet_links(survey):
    """For each node in a state that may not be silent the nodes to which it leads quietly.

    From a call these are the first node of the callee and, if the call can end quietly, the node behind it.
    """
    machine = survey.machine
    return {
        number: links_of(survey, number, machine.step(number))
        for number in survey.words if not machine.may_be_silent(number)
    }


def links_of(survey, number, step):
    """The nodes to which a node leads quietly."""
    if step.kind == "quiet":
        return [step.ways[0][2]]
    if step.kind != "call":
        return []
    behind = [survey.machine.behind_call(number, ending) for ending in survey.walks[step.callee].endings if ending[3]]
    return [step.callee] + behind


def quiet_ranks(survey):
    """For each node in a state that may not be silent how deep the quiet calls from it on lie in each other.

    A node without a number is one from which the run goes on quietly for ever: nothing but the way
    from a node to those that it leads to can give it one, and that way has no end.
    """
    links = quiet_links(survey)
    before = {number: [] for number in links}
    for number in links:
        for target in links[number]:
            before[target].append(number)
    missing = {number: len(links[number]) for number in links}
    ready = [number for number in links if missing[number] == 0]
    ranks = {}
    while ready:
        number = ready.pop()
        ranks[number] = rank_of(survey.machine.step(number), links[number], ranks)
        for other in before[number]:
            missing[other] -= 1
            if missing[other] == 0:
                ready.append(other)
    return ranks


def rank_of(step, links, ranks):
    """The rank of a node whose links have theirs: a call lies one deeper than what it calls."""
    if step.kind == "call":
        return max([ranks[links[0]] + 1] + [ranks[target] for target in links[1:]])
    return max([0] + [ranks[target] for target in links])


def least_silence(survey, ranks):
    """The least word to a node from which the run is silent for ever where it may not, or None."""
    machine = survey.machine
    words = [
        word for number, word in survey.words.items()
        if not machine.may_be_silent(number) and number not in ranks
    ]
    return min(words) if words else None
