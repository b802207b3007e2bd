"""Systems with one start that tell a tree of a count."""

from restcounts.combining import (
    before_system, fold_system, jump_system, number_system, product_system, sum_system)
from restcounts.powers import powers_of
from restcounts.systems import least_system, shortened
from restcounts.walking import walk_system


def system_of_tree(tree, m):
    """A system of as few rows as can be that tells, for each n, the rest of the value at n."""
    return least_system(plain_system(tree, m))


def short_system_of_tree(tree, m):
    """A system that tells the same, where rows that tell the same are the same."""
    return shortened(plain_system(tree, m))


def exact_system_of_tree(tree, m):
    """A system of few rows that tells the same, where rows that tell the same are the same."""
    return shortened(system_of_tree(tree, m))


def plain_system(tree, m):
    """A system that tells the tree, put together from those of its parts."""
    kind = tree[0]
    if kind == "number":
        return number_system(tree[1], m)
    if kind == "walk":
        return walk_system(powers_of(tree[1]), [powers_of(tree[2])], m)
    if kind == "plus":
        signs = [sign for sign, _ in tree[1]]
        return sum_system(signs, [system_of_tree(term, m) for _, term in tree[1]])
    if kind == "times":
        return system_of_product(tree[1], m)
    if kind == "fold":
        return fold_system(system_of_tree(tree[1], m), system_of_tree(tree[2], m))
    if kind == "at":
        return jump_system(system_of_tree(tree[3], m), tree[1], tree[2])
    inner = system_of_tree(tree[1], m)
    if kind == "sum":
        return before_system(inner)
    further = jump_system(inner, 1, 1)
    if kind == "next":
        return further
    return sum_system((1, -1), (further, inner))


def system_of_product(factors, m):
    """A system that tells the product of all factors."""
    total = system_of_tree(factors[0], m)
    for at, factor in enumerate(factors[1:]):
        # The numbers of rows are multiplied, so fewer are looked for ahead of each product.
        before = least_system(total) if at > 0 else total
        total = product_system(before, system_of_tree(factor, m))
    return total
