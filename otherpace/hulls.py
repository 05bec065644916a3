"""Polygons around points with integers as coordinates, which are pairs."""


def turning(first, second, third):
    """Above 0 if the way over three points turns to the left, 0 if they lie on one line."""
    along = (second[0] - first[0], second[1] - first[1])
    on = (third[0] - first[0], third[1] - first[1])
    return along[0] * on[1] - along[1] * on[0]


def hull_of(points):
    """The list of the corners around points, which ascend and differ: first the one that ascends
    first, then round to the left. Corners lie on no line between two others."""
    if len(points) == 1:
        return points
    below = half_hull(points)
    above = half_hull(list(reversed(points)))
    return below[:-1] + above[:-1]


def half_hull(points):
    """The corners on one side, from the first point to the last one. (A. Andrew 1979.)"""
    corners = []
    for point in points:
        while len(corners) > 1 and turning(corners[-2], corners[-1], point) <= 0:
            corners.pop()
        corners.append(point)
    return corners


def weights_within(hull, place):
    """Pairs of a corner and an integer from 1 on, so that the place is the mean of these corners
    with these weights; none if the place lies outside."""
    for corners in triangles(hull):
        weights = weights_at(corners, place)
        if min(weights) >= 0:
            return [(corner, weight) for corner, weight in zip(corners, weights) if weight > 0]
    return []


def triangles(hull):
    """A list of corners, three at a time, whose triangles make up the polygon; a stretch or a
    single point comes alone."""
    if len(hull) < 3:
        return [hull]
    return [[hull[0], hull[at], hull[at + 1]] for at in range(1, len(hull) - 1)]


def weights_at(corners, place):
    """The weights of the corners of a triangle, a stretch or a single point at a place; one of
    them is below 0 if this lies outside."""
    if len(corners) == 1:
        return [1 if place == corners[0] else -1]
    if len(corners) == 2:
        return weights_on_line(corners[0], corners[1], place)
    first, second, third = corners
    return [turning(second, third, place), turning(third, first, place), turning(first, second, place)]


def weights_on_line(first, second, place):
    """The weights of the ends of a stretch at a place."""
    if turning(first, second, place) != 0:
        return [-1, -1]
    along = (second[0] - first[0], second[1] - first[1])
    ahead = (second[0] - place[0]) * along[0] + (second[1] - place[1]) * along[1]
    behind = (place[0] - first[0]) * along[0] + (place[1] - first[1]) * along[1]
    return [ahead, behind]


def direction_from(hull, place):
    """A pair (a, b) for which a x + b y is less at a place outside than at each corner."""
    for a, b in directions(hull):
        if min([a * x + b * y for x, y in hull]) > a * place[0] + b * place[1]:
            return (a, b)
    return (0, 0)


def directions(hull):
    """Pairs (a, b), one of which parts each place outside from the polygon: across each edge, and,
    for stretches and single points, along it and along the axes."""
    found = [(1, 0), (-1, 0), (0, 1), (0, -1)]
    for first, second in zip(hull, hull[1:] + hull[:1]):
        x, y = second[0] - first[0], second[1] - first[1]
        found.extend([(-y, x), (x, y)])
    return found
