"""Values of trees of counts at given integers, exactly or as rests.

Where m is passed, it is a modulus, and the rests are told; 0 stands for the values themselves.
Points are ascending tuples of integers from 0 on, each standing once.
"""

from restcounts.constants import constant_parts
from restcounts.powers import powers_of
from restcounts.systems import first_rests_of, shortened
from restcounts.walking import walk_system


def values_at(tree, points, m):
    """The list of the values of a tree at all points."""
    if not points:
        return []
    degree = degree_of(tree)
    if degree is None or points[-1] <= degree:
        return reduced(plain_values(tree, points, m), m)
    # A count without walks is a polynomial of n, which its first values tell.
    known = plain_values(tree, tuple(range(degree + 1)), 0)
    return reduced(continued(known, points), m)


def reduced(values, m):
    """The rests of the values, or the values themselves if m is 0."""
    return [number % m for number in values] if m else values


def degree_of(tree):
    """A number that the degree of a count without walks does not exceed; None with a walk."""
    kind = tree[0]
    if kind == "number":
        return 0
    if kind == "walk":
        return None
    if kind in ("plus", "times"):
        inner = [term[1] for term in tree[1]] if kind == "plus" else list(tree[1])
    else:
        inner = [part for part in tree[1:] if isinstance(part, tuple)]
    degrees = [degree_of(part) for part in inner]
    if None in degrees:
        return None
    if kind == "times":
        return sum(degrees)
    return sum(degrees) + 1 if kind in ("sum", "fold") else max(degrees)


def continued(values, points):
    """The values at all points of the polynomial that has these values at 0, 1, .."""
    differences = []
    while any(values):
        differences.append(values[0])
        values = [values[at + 1] - values[at] for at in range(len(values) - 1)]
    return [newton_value(differences, point) for point in points]


def newton_value(differences, n):
    """The sum of the differences, each times the number of ways to choose so many of n."""
    total = 0
    ways = 1
    for at, difference in enumerate(differences):
        total = total + ways * difference
        ways = ways * (n - at) // (at + 1)
    return total


def plain_values(tree, points, m):
    """The values at all points, put together from those of the parts of the tree."""
    kind = tree[0]
    if kind == "number":
        return [tree[1] for _ in points]
    if kind == "walk":
        return walk_at(powers_of(tree[1]), powers_of(tree[2]), points, m)
    if kind == "plus":
        return summed_terms(tree[1], points, m)
    if kind == "times":
        return multiplied_factors(tree[1], points, m)
    if kind == "at":
        return values_at(tree[3], tuple([tree[1] * n + tree[2] for n in points]), m)
    if kind == "next":
        return values_at(tree[1], tuple([n + 1 for n in points]), m)
    if kind == "step":
        return stepped(tree[1], points, m)
    if kind == "sum":
        return sums_before(tree[1], points, m)
    return folded_values(tree[1], tree[2], points, m)


def walk_at(steps, ends, points, m):
    """The values of a walk."""
    if not m:
        return constant_parts(steps, ends, points)
    if letters_in(steps, ends) > 1:
        return reduced(constant_parts(steps.modulo(m), ends.modulo(m), points), m)
    # With one letter many values may be asked for, and the tables for them are small.
    return first_rests_of(shortened(walk_system(steps, [ends], m)), points)[0]


def letters_in(steps, ends):
    """How many letters stand in one of the two sums."""
    return len([at for at in range(3) if steps.reach[at] > 0 or ends.reach[at] > 0])


def summed_terms(terms, points, m):
    """The values of a sum of terms with signs."""
    total = [0 for _ in points]
    for sign, tree in terms:
        values = values_at(tree, points, m)
        total = [a + sign * b for a, b in zip(total, values)]
    return total


def multiplied_factors(factors, points, m):
    """The values of a product."""
    total = [1 for _ in points]
    for tree in factors:
        values = values_at(tree, points, m)
        total = reduced([a * b for a, b in zip(total, values)], m)
    return total


def stepped(tree, points, m):
    """The values one further on less those at the points."""
    wanted = {}
    for n in points:
        wanted[n] = True
        wanted[n + 1] = True
    ascending = tuple(sorted(list(wanted)))
    values = values_at(tree, ascending, m)
    found = {n: number for n, number in zip(ascending, values)}
    return [found[n + 1] - found[n] for n in points]


def sums_before(tree, points, m):
    """At each point the sum of the values at all integers below it."""
    sums = [0]
    for number in values_at(tree, tuple(range(points[-1])), m):
        sums.append(sums[-1] + number)
    return [sums[n] for n in points]


def folded_values(tree, other, points, m):
    """At each point n the sum of the values at i times those of other at n - i."""
    before = tuple(range(points[-1] + 1))
    one = values_at(tree, before, m)
    turned = list(reversed(values_at(other, before, m)))
    last = points[-1]
    return [sum([a * b for a, b in zip(one[:n + 1], turned[last - n:])]) for n in points]
