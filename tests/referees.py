"""Judges told a second time, in other words: by lists of all faults in their order, the first of which is due."""

from fractions import Fraction
from math import gcd


def is_fraction(value):
    if type(value) is not tuple or len(value) != 2 or any(type(k) is not int for k in value):
        return False
    return value[1] >= 1 and gcd(*value) == 1


def is_list_of(value, many):
    return type(value) is tuple and len(value) == many and all(is_fraction(k) for k in value)


def fs(value):
    return [Fraction(*k) for k in value]


def dot(one, other):
    return sum((Fraction(x) * Fraction(y) for x, y in zip(one, other)), Fraction(0))


def sums(room, weights):
    n, rows = room
    told = fs(weights)
    form = [sum((w * a[k] for w, (a, _) in zip(told, rows)), Fraction(0)) for k in range(n)]
    return form, sum((w * b for w, (_, b) in zip(told, rows)), Fraction(0))


def adding(room, weights, form, *ahead):
    """All faults by which weights do not add up to a form."""
    found = [("weight",) + ahead + (k,) for k, w in enumerate(fs(weights)) if w < 0]
    found += [("sum",) + ahead + (k,) for k, (x, y) in enumerate(zip(sums(room, weights)[0], form)) if x != y]
    return found


def first(found):
    return found[0] if found else None


def broken(room, point):
    return [("row", k) for k, (a, b) in enumerate(room[1]) if dot(a, fs(point)) > b]


def growing(room, way):
    return [("way", k) for k, (a, _) in enumerate(room[1]) if dot(a, fs(way)) > 0]


def bare_faults(room, weights):
    found = adding(room, weights, [0] * room[0])
    return found + [("bound",)] * (sums(room, weights)[1] > -1)


def told(value, word, many):
    return type(value) is tuple and len(value) == many and value[0] == word and type(value[0]) is str


def judge_bare(room, value):
    if not is_list_of(value, len(room[1])):
        return ("form",)
    return first(bare_faults(room, value))


def judge_greatest(room, form, value):
    n, many, f = room[0], len(room[1]), fs(form)
    if told(value, "bare", 2) and is_list_of(value[1], many):
        return first(bare_faults(room, value[1]))
    if told(value, "far", 3) and is_list_of(value[1], n) and is_list_of(value[2], n):
        found = broken(room, value[1]) + growing(room, value[2])
        return first(found + [("worth",)] * (dot(f, fs(value[2])) <= 0))
    if told(value, "most", 4) and is_fraction(value[1]) and is_list_of(value[2], n) and is_list_of(value[3], many):
        worth = Fraction(*value[1])
        found = broken(room, value[2]) + [("worth",)] * (dot(f, fs(value[2])) != worth)
        found += adding(room, value[3], f)
        return first(found + [("bound",)] * (sums(room, value[3])[1] != worth))
    return ("form",)


def judge_following(room, row, value):
    if told(value, "bare", 2) and is_list_of(value[1], len(room[1])):
        return first(bare_faults(room, value[1]))
    if told(value, "weights", 2) and is_list_of(value[1], len(room[1])):
        return first(adding(room, value[1], row[0]) + [("bound",)] * (sums(room, value[1])[1] > row[1]))
    if told(value, "point", 2) and is_list_of(value[1], room[0]):
        return first(broken(room, value[1]) + [("within",)] * (dot(row[0], fs(value[1])) <= row[1]))
    return ("form",)


def judge_bound(room, value):
    n, many = room[0], len(room[1])
    if told(value, "bare", 2) and is_list_of(value[1], many):
        return first(bare_faults(room, value[1]))
    if told(value, "box", 2) and type(value[1]) is tuple and len(value[1]) == n and all(
            type(p) is tuple and len(p) == 2 and all(is_list_of(w, many) for w in p) for p in value[1]):
        found = []
        for k, pair in enumerate(value[1]):
            for end in (0, 1):
                form = [0] * n
                form[k] = 1 if end else -1
                found += adding(room, pair[end], form, k, end)
        return first(found)
    if told(value, "way", 3) and is_list_of(value[1], n) and is_list_of(value[2], n):
        found = broken(room, value[1]) + growing(room, value[2])
        return first(found + [("still",)] * (not any(fs(value[2]))))
    return ("form",)


def judge_inside(room, other, value):
    if told(value, "bare", 2) and is_list_of(value[1], len(room[1])):
        return first(bare_faults(room, value[1]))
    if told(value, "rows", 2) and type(value[1]) is tuple and len(value[1]) == len(other[1]) and all(
            is_list_of(w, len(room[1])) for w in value[1]):
        found = []
        for k, (weights, (a, b)) in enumerate(zip(value[1], other[1])):
            found += adding(room, weights, a, k) + [("bound", k)] * (sums(room, weights)[1] > b)
        return first(found)
    if told(value, "point", 2) and is_list_of(value[1], room[0]):
        return first(broken(room, value[1]) + [("within",)] * (not broken(other, value[1])))
    return ("form",)


def is_weights(value, many):
    return is_list_of(value, many) and all(k[0] >= 0 for k in value)


def judge_above(room, shown, point, value):
    n = room[0]
    if told(value, "above", 2) and is_list_of(value[1], n):
        found = [("shown", k) for k, place in enumerate(shown) if value[1][place] != point[k]]
        return first(found + broken(room, value[1]))
    if told(value, "none", 2) and is_weights(value[1], len(room[1])):
        form, bound = sums(room, value[1])
        found = [("sum", k) for k in range(n) if k not in shown and form[k] != 0]
        return first(found + [("let",)] * (dot([form[k] for k in shown], fs(point)) <= bound))
    return ("form",)


def changed(told_random, value, others):
    """The value with one of its parts otherwise: exchanged, left out, put in, made another number."""
    if type(value) is not tuple or not value or told_random.random() < 0.05:
        return told_random.choice(others)
    k = told_random.randrange(len(value))
    kind = told_random.random()
    if is_fraction(value) and kind < 0.85:
        p, q = Fraction(*value).limit_denominator(10 ** 9) + told_random.choice([-2, -1, 1, 2]), 1
        told_fraction = Fraction(p) * told_random.choice([1, 1, -1, Fraction(1, 2)]) / q
        return (told_fraction.numerator, told_fraction.denominator)
    if kind < 0.04:
        return value[:k] + value[k + 1:]
    if kind < 0.07:
        return value[:k] + (value[k],) + value[k:]
    if kind < 0.10:
        j = told_random.randrange(len(value))
        found = list(value)
        found[k], found[j] = found[j], found[k]
        return tuple(found)
    if type(value[k]) is str and kind < 0.9:
        k = len(value) - 1
    if type(value[k]) is int:
        return value[:k] + (value[k] + told_random.choice([-1, 1, 2]),) + value[k + 1:]
    return value[:k] + (changed(told_random, value[k], others),) + value[k + 1:]
