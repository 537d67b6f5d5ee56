"""Rules, and what they do to a term."""
from keptkinds.terms import is_word


def is_rule(signature, rule):
    """Whether a rule is valid."""
    if not isinstance(rule, tuple) or len(rule) != 2:
        return False
    left, right = rule
    return is_left(signature, left) and is_right(signature, right, variables_of(left))


def is_left(signature, left):
    """Whether this is a left side: a working symbol over variables and patterns."""
    if not signature.has_form(left) or signature.is_done(left[0]):
        return False
    if not all([isinstance(part, str) or is_pattern(signature, part) for part in left[1:]]):
        return False
    variables = variables_of(left)
    return all([is_word(one) for one in variables]) and len(set(variables)) == len(variables)


def is_pattern(signature, part):
    """Whether this is a symbol over variables."""
    return signature.has_form(part) and all([isinstance(one, str) for one in part[1:]])


def is_right(signature, right, variables):
    """Whether this is a right side over these variables."""
    if isinstance(right, str):
        return right in variables
    return signature.has_form(right) and all([is_right(signature, part, variables) for part in right[1:]])


def variables_of(left):
    """The variables of a left side, from left to right."""
    listed = []
    for part in left[1:]:
        if isinstance(part, str):
            listed.append(part)
        else:
            listed.extend(part[1:])
    return listed


def fits(left, term):
    """Whether a rule with this left side fits at a term that is its own active place."""
    if left[0] != term[0]:
        return False
    return all([isinstance(shape, str) or shape[0] == part[0] for shape, part in zip(left[1:], term[1:])])


def bindings(left, term):
    """For each variable of the left side, what stands at its place in a term that fits."""
    bound = {}
    for shape, part in zip(left[1:], term[1:]):
        if isinstance(shape, str):
            bound[shape] = part
        else:
            for variable, inner in zip(shape[1:], part[1:]):
                bound[variable] = inner
    return bound


def filled(right, bound):
    """The right side with each variable replaced by what it is bound to."""
    if isinstance(right, str):
        return bound[right]
    parts = [filled(part, bound) for part in right[1:]]
    return (right[0], *parts)


def active_path(signature, term):
    """The path to the active place of a term, or None for a value.

    This looks for the first working symbol, in the order of evaluation, whose
    evaluated places all have values; `at` counts those already known to have.
    """
    path = []
    above = []
    at = 0
    while True:
        order = signature.order_of(term[0])
        if at < len(order):
            path.append(order[at])
            above.append((term, at))
            term = term[1 + order[at]]
            at = 0
        elif not signature.is_done(term[0]):
            return tuple(path)
        elif not above:
            return None
        else:
            path.pop()
            term, at = above.pop()
            at += 1


def part_at(term, path):
    """The part to which a path leads."""
    for place in path:
        term = term[1 + place]
    return term


def replaced(term, path, part):
    """The term with this part at the end of the path."""
    above = []
    for place in path:
        above.append((term, place))
        term = term[1 + place]
    for outer, place in above[::-1]:
        part = outer[:1 + place] + (part,) + outer[2 + place:]
    return part
