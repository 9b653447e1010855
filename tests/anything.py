"""Things to hand in, and the checks that tests of every file share."""

import copy
from itertools import permutations

GREAT = 10 ** 49 + 7


def nothings():
    """Things that are neither an order, nor a number, a row or a pattern."""
    return [
        None, True, False, "1", "1 2 3", "(1, 2)", "U", "ud ", "u\n", "u1",
        [], [1], [1, 2], [2, 1, 3], ["u"], [[1]], [(1,)],
        {}, {1: 1}, {1: 2, 2: 1}, {"u": "d"}, {(1, 2): [1]},
        (), (None,), (True,), (False,), ("1",), ("u", "d"), ((1,),), ([1],), ({},), ((),),
        (True, 2), (2, True), (False, 1), (1, None), (2, "1"), (1, (2,)), (1, [2], 3), (1, {2: 2}),
        (1, 2, True), (True, False), ((((1,),),),), ([[[1]]],),
        tuple(range(1, 42)), tuple(range(1, 401)), [None] * 900, "u" * 40, "?" * 300,
    ]


def wrong_numbers():
    """Things that are no whole number, and whole numbers that are too great or too small."""
    return nothings() + ["", "u", (1,), (1, 2), (2, 1, 3), -1, -2, GREAT, -GREAT]


def wrong_rows():
    """Things that are no row."""
    rows = nothings() + ["", "u", 0, 1, 2, -1, GREAT]
    rows += [(1, 1), (2, 1, 2), (0, 0), (GREAT, 5, GREAT), (1,) * 40, (-3, -3)]
    for good in ((4, -2, 0, GREAT, 1), tuple(range(-20, 20))):
        rows += with_one_otherwise(good, [good[0]], [good[1]])
    return rows


def wrong_orders():
    """Things that are no order."""
    orders = wrong_rows()
    orders += [(0,), (2,), (-1,), (GREAT,), (0, 1), (1, 3), (2, 3, 4), (3, 1), (1, 2, 4), (1, 2, GREAT)]
    for good in ((1,), (2, 1), (3, 1, 4, 5, 2), tuple(range(1, 41)), tuple(range(40, 0, -1))):
        orders += with_one_otherwise(good, [0, -1, len(good) + 1], [0, -1, len(good) + 1])
    return orders


def wrong_updowns():
    """Things that are no up-down, orders that do not go up and down among them."""
    long = alternating(40)
    orders = [(2, 1), (1, 2, 3), (3, 2, 1), (2, 1, 3), (3, 1, 2), (1, 3, 4, 2), (2, 1, 4, 3)]
    orders += [tuple(range(1, 41)), tuple(range(40, 0, -1)), tuple(41 - number for number in long)]
    return wrong_orders() + orders + [long[:38] + (long[39], long[38]), long[::-1]]


def wrong_trees():
    """Things that are no tree."""
    trees = wrong_orders() + [(1,), (2, 1), (2, 3, 1), (0, 0), (((0, 0),),), [(0, 0)], ([0, 0],)]
    trees += [((0, 0, 0),), ((0,),), ((0, 1),), ((1, 0),), ((0, -1),), ((GREAT, 0),), ((1, 1),)]
    trees += [
        ((0, 0), (0, 0)), ((2, 0), (0, 0)), ((0, 0), (1, 1)), ((0, 0), (2, 0)), ((0, 0), (1, 2)),
        ((0, 0), (1, 0), (1, 2)), ((0, 0), (1, 0), (0, 0)), ((0, 0), (1, 0), (0, 3)),
        ((0, 0), (3, 0), (1, 0)), ((2, 0), (1, 0), (0, 0)), ((0, 0), (0, 0), (2, 2)),
        ((0, 0), (0, 0), (1, 2), (3, 2)), ((0, 0), (0, 0), (1, 2), (-3, 3)), {1: (0, 0)}, "0/0",
    ]
    trees += [chain(41), chain(60), list(chain(3)), chain(40)[:-1] + ((0, 0),), ((0, 0),) * 40]
    for good in (((0, 0),), ((0, 0), (0, 0), (2, 1)), chain(40)):
        for at in range(len(good)):
            left, right = good[at]
            for pair in ([left, right], (left,), (left, right, 0), (left, None), (str(left), right), (),
                         (left, bool(right)), (False, right), {left: right}, left, None, "00", ((left,), right),
                         (left, -1), (left, len(good)), (len(good) + 1, right), (left, at + 1)):
                trees.append(good[:at] + (pair,) + good[at + 1:])
    return trees


def chain(length):
    """A tree in which each number but the first has the one below it on its right."""
    return tuple((0, number) for number in range(length))


def wrong_looses():
    """Things that are no loose tree."""
    found = [thing for thing in nothings() if thing != ()]
    found += ["", "-", 0, 1, -1, GREAT, (0,), (2,), (-1,), (GREAT,), (1, 0), (1, 3), (1, 2, 4), (2, 1), (1, -2)]
    found += [(1, 1, 1), (1, 2, 2, 2), (1, 2, 1, 1), (1, 1, 2, 3, 2, 2), (1,) * 39, tuple(range(1, 41))]
    found += [tuple(range(1, 39)) + (40,), list(range(1, 40)), (1, 1) + tuple(range(1, 38))]
    for good in ((1,), (1, 1), (1, 2, 3), tuple(range(1, 40))):
        found += with_one_otherwise(good, [0, -1, len(good) + 1], [0, -1, 2])
    return found


def wrong_rings():
    """Things that are no ring: an odd number of numbers, the greatest not ahead, no turns among them."""
    rings = wrong_orders() + [(1,), (1, 2), (3, 1, 2), (5, 1, 4, 2, 3), (4, 1, 2, 3), (4, 3, 2, 1), (4, 3, 1, 2)]
    # The first of these goes up from its last to its first number, the second one does not.
    rings += [(3, 1, 4, 2), (2, 1, 4, 3), (3, 2, 4, 1), (1, 3, 2, 4), (2, 3, 1, 4), (0, 2), (3, 1)]
    long = (40,) + alternating(39)
    rings += [long[2:] + long[:2], long[1:] + long[:1], long[:38] + (long[39], long[38]), (39,) + alternating(38)]
    rings += [(42,) + alternating(41), alternating(40), tuple(41 - number for number in long)]
    rings += [list(long), [2, 1], [4, 1, 3, 2], {2: 1}, "2 1"]
    for good in ((2, 1), (4, 1, 3, 2), long):
        rings += with_one_otherwise(good, [0, -1, len(good)], [0, -1, len(good) + 1, 1, len(good) - 1])
    return rings


def wrong_fractions():
    """Things that are no fraction."""
    fractions = nothings() + [(2, 4), (0, 2), (0, 0), (1, 0), (1, -1), (-1, -2), (1, -2), (0, -1), (6, 9), (-6, 9)]
    fractions += [(1,), (1, 2, 3), (1, 2, 1), [1, 2], {1: 2}, "1/2", "1", "-", 1, 0, -1, ((1, 2),), ((1, 2), (1, 2))]
    fractions += [(999999999, 3), (500000000, 2), (999999999, 999999999), (-10, 1000), (7, 49), (GREAT, GREAT)]
    for good in ((1, 2), (-3, 4), (0, 1), (7, 1), (999999999, 999999998)):
        fractions += with_one_otherwise(good, [0, -1, -good[1]], [])
    return fractions


def no_texts():
    """Things that are no text."""
    return [thing for thing in wrong_trees() + [0, 1, 2, -1, GREAT, (1, 2), (2, 1)] if not isinstance(thing, str)]


def with_one_otherwise(good, behind, first):
    """The tuple with one thing otherwise, at each place: the first place has its own things."""
    found = []
    for at in range(len(good)):
        twins = {0: [False], 1: [True]}.get(good[at], [])
        for thing in twins + [None, True, False, str(good[at]), (good[at],), [good[at]], {}]:
            found.append(good[:at] + (thing,) + good[at + 1:])
        for thing in first if at == 0 else behind:
            found.append(good[:at] + (thing,) + good[at + 1:])
    return found


def wrong_patterns():
    """Things that are no pattern."""
    texts = ["U", "D", "x", " ", "u d", "ud-", "-", "ud?!", "u" * 40, "?" * 40, "ud" * 20, "ud" * 150]
    for at in range(0, 39, 6):
        for sign in ("U", " ", "1", "*", "ud"):
            texts.append("u" * at + sign + "?" * (38 - at))
    return nothings() + texts + [0, 1, -1, GREAT, (1,), (1, 2), ("u",), ["u", "d"]]


def alternating(length):
    """An up-down of so many numbers: the lesser half and the greater half by turns."""
    half = (length + 1) // 2
    return tuple(at // 2 + 1 if at % 2 == 0 else half + at // 2 + 1 for at in range(length))


def goes_up_and_down(order):
    return all((order[at] < order[at + 1]) == (at % 2 == 0) for at in range(len(order) - 1))


def up_downs(n):
    """All up-downs of n by going through all orders, as tuples compare."""
    return [order for order in permutations(range(1, n + 1)) if goes_up_and_down(order)]


def some_numbers(many):
    """Some of the numbers from 0 on below so many, at both ends and between."""
    last = many - 1
    found = {0, 1, 2, last // 9, last // 7, last // 3, last // 2, last - last // 5, last - 2, last - 1, last}
    return sorted(number for number in found if 0 <= number <= last)


def refused(test, refusal, asked, *handed):
    """What is handed in is refused with this class and no other one, and left as it was."""
    ahead = copy.deepcopy(handed)
    try:
        told = asked(*handed)
    except Exception as error:
        test.assertIs(type(error), refusal, f"{asked.__name__}{handed!r}")
    else:
        test.fail(f"{asked.__name__}{handed!r} told {told!r}")
    test.assertEqual(repr(handed), repr(ahead))


def told_anew(test, asked, *handed):
    """What is told can be changed by the asker, lists within lists too, and is told again as ahead."""
    told = asked(*handed)
    kept = copy.deepcopy(told)
    spoil(told)
    test.assertNotEqual(told, kept)
    test.assertEqual(asked(*handed), kept)


def spoil(told):
    """Change a list or a dict that was told, and the lists within it."""
    if isinstance(told, dict):
        for key in list(told):
            if isinstance(told[key], list):
                spoil(told[key])
            told[key] = -5
        told["more"] = 1
        return
    for part in told:
        if isinstance(part, list):
            spoil(part)
    if told:
        told[0] = -5
    told.append("more")
