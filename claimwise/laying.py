"""Laying: where parts, joins and steps come to stand when two made things, or two readings, become one."""


# For each part of the second its place in the whole: its partner's, or one behind all that stand already.
def places_laid(count, other_count, spots):
    partners = dict([(j, i) for i, j in spots])
    places = []
    for j in range(other_count):
        places.append(partners[j] if j in partners else count)
        if j not in partners:
            count += 1
    return places


def joins_laid(joins, others, places):
    return sorted(set(joins + [(word, places[i], places[j]) for word, i, j in others]))


def steps_laid(steps, others, places):
    return steps + [(word, places[i]) for word, i in others]
