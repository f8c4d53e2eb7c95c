"""Judging the names and levels of trees, and splitting the leads off raw programs."""

from quicktongue.errors import BadPath, BadRaw, BadTree
from quicktongue.faults import all_faults
from quicktongue.kinds import alike, is_among, is_path
from quicktongue.places import places_in
from quicktongue.raws import fits_raw, least_tree
from quicktongue.trees import is_tree


def judge_levels(tree):
    """Any certificate of a tree: that it fits, or one of its faults."""
    if not is_tree(tree):
        raise BadTree(tree)
    faults = all_faults(tree)
    return faults[0] if faults else ("fit",)


def levels_hold(tree, thing):
    """Whether any value is a certificate of a tree."""
    if not is_tree(tree):
        raise BadTree(tree)
    right = all_faults(tree) or [("fit",)]
    return is_among(thing, right)


def is_program(thing):
    """Whether any value is a program."""
    return is_tree(thing) and not all_faults(thing)


def names_at(tree, path):
    """The leading and the soft names in scope at the term or command at a path of a tree."""
    if not is_tree(tree):
        raise BadTree(tree)
    if not is_path(path) or not path or path[0] >= len(tree):
        raise BadPath(path)
    function = tree[path[0]]
    softs = function[3] + function[4]
    for place in places_in(function, path[:1]):
        if place.path == path:
            leads = [name for name in place.scope if name not in softs]
            return tuple(sorted(set(leads))), tuple(sorted(set(softs)))
    raise BadPath(path)


def is_raw(thing):
    """Whether any value is a raw program."""
    return fits_raw(thing)


def judge_split(raw):
    """The certificate of a raw program: the program split off it with the least leads, or that there is none."""
    if not fits_raw(raw):
        raise BadRaw(raw)
    tree = least_tree(raw)
    return ("none",) if all_faults(tree) else ("split", tree)


def split_holds(raw, thing):
    """Whether any value is a certificate of a raw program."""
    return alike(judge_split(raw), thing)
