"""What the document says of tables and shapes, reckoned the slow way, and checks that several tests share."""

from copy import deepcopy
from fractions import Fraction
from itertools import combinations, permutations
from random import Random

from bandwright.tables import one_table
from bandwright.worlds import World
from samples import FRACTIONS, fraction, told

SEVEN = World(("wheel", 7))
SMALL_WHEELS = [World(("wheel", prime)) for prime in (2, 3, 5)]
WORLDS = [FRACTIONS, SEVEN, World(("wheel", 997))] + SMALL_WHEELS


def value(world, number):
    return fraction(number) if world.told() == ("fractions",) else number


def number_of(world, total):
    return told(total) if world.told() == ("fractions",) else total % world.told()[1]


def products_sum(world, pairs):
    return number_of(world, sum(value(world, a) * value(world, b) for a, b in pairs))


def expected_product(world, one, other):
    return [[products_sum(world, [(row[k], other[k][j]) for k in range(len(other))])
             for j in range(len(other[0]))] for row in one]


def expected_carried(world, table, row):
    return [products_sum(world, zip(each, row)) for each in table]


def expected_through(world, row, table):
    return [products_sum(world, zip(row, each)) for each in turned_about(table)]


def turned_about(table):
    return [list(column) for column in zip(*table)]


def noughts(world, many):
    return [world.of(0)] * many


def ones_at(world, many, place):
    return [world.of(1) if each == place else world.of(0) for each in range(many)]


def determinant(world, table):
    """The sum over all permutations."""
    total = 0
    for places in permutations(range(len(table))):
        term = (-1) ** sum(1 for a, b in combinations(places, 2) if a > b)
        for row, place in zip(table, places):
            term = term * value(world, row[place])
        total = total + term
    return number_of(world, total)


def part_of(table, rows, columns):
    return [[table[i][j] for j in columns] for i in rows]


def rank_by_parts(world, table):
    """The greatest r for which r rows and r columns have a table that can be undone."""
    for many in range(min(len(table), len(table[0])), 0, -1):
        for rows in combinations(range(len(table)), many):
            for columns in combinations(range(len(table[0])), many):
                if determinant(world, part_of(table, rows, columns)) != world.of(0):
                    return many
    return 0


def all_rows(prime, many):
    """Each row of so many numbers of a wheel."""
    rows = [[]]
    for place in range(many):
        rows = [row + [number] for row in rows for number in range(prime)]
    return rows


def some_number(world, random, great=9):
    bottom = random.randint(1, great) if world.told() == ("fractions",) and random.random() < 0.5 else 1
    return world.of(random.randint(-great, great), bottom)


def some_row(world, random, many, great=9):
    return [some_number(world, random, great) for place in range(many)]


def some_table(world, random, n, m, great=9):
    return [some_row(world, random, m, great) for row in range(n)]


def made_of(world, random, rows):
    """A row that is the sum of each of the rows times a number."""
    return expected_through(world, some_row(world, random, len(rows)), rows)


def tables_of(world, n, m, seed):
    """Tables of one size: of whatever rank, of noughts, with noughts, with rows alike, with lines made of others."""
    random = Random(f"{world.told()} {n} {m} {seed}")
    table = some_table(world, random, n, m)
    thin = [[number if random.random() < 0.5 else world.of(0) for number in row] for row in table]
    alike = [list(table[0]) if i == n - 1 else row for i, row in enumerate(table)]
    few = some_table(world, random, max(1, n // 2), m)
    of_rows = [made_of(world, random, few) for row in range(n)]
    of_columns = turned_about([made_of(world, random, turned_about(thin)[:max(1, m // 2)]) for column in range(m)])
    nothing = [noughts(world, m) for row in range(n)]
    one_row = [noughts(world, m) if i != n // 2 else row for i, row in enumerate(table)]
    return deepcopy([table, thin, alike, of_rows, of_columns, nothing, one_row])


def changed(world, row, place):
    """The row with another number at the place."""
    told_row = list(row)
    told_row[place] = world.plus(row[place], world.of(1))
    return told_row


def linked(shape, i, j):
    return (min(i, j), max(i, j)) in shape[1]


def all_shapes(n):
    links = list(combinations(range(n), 2))
    return [(n, tuple(link for k, link in enumerate(links) if mask >> k & 1)) for mask in range(2 ** len(links))]


def some_shape(random, n, much):
    return (n, tuple(link for link in combinations(range(n), 2) if random.random() < much))


def some_order(random, n):
    order = list(range(n))
    random.shuffle(order)
    return order


def reached(shape, start, through):
    """The places to which a walk leads from the start, all places between of which are of those told."""
    found = {start}
    waiting = [start]
    while waiting:
        place = waiting.pop()
        if place == start or place in through:
            more = [other for other in range(shape[0]) if other not in found and linked(shape, place, other)]
            found.update(more)
            waiting.extend(more)
    return found - {start}


def filled_by_walks(shape, order):
    links = []
    for i, j in combinations(range(shape[0]), 2):
        ahead = [place for place in order if order.index(place) < min(order.index(i), order.index(j))]
        if j in reached(shape, i, ahead):
            links.append((i, j))
    return (shape[0], tuple(links))


def triangles_of(shape):
    return sum(1 for i, j, k in combinations(range(shape[0]), 3)
               if linked(shape, i, j) and linked(shape, i, k) and linked(shape, j, k))


def deeds_by_count(shape, order):
    whole = filled_by_walks(shape, order)
    return 4 * len(whole[1]) + 2 * triangles_of(whole) + whole[0]


def no_orders(n):
    """Lists of whole numbers that are no orders of so many places."""
    right = list(range(n))
    lists = [right[:-1], right[1:], right + [n], right + [0], right + right, right[:-1] + [n], [-1] + right[1:],
             [place - 1 for place in right], [place + 1 for place in right], right[:-1] + [10 ** 299], [-n] + right[1:],
             right + [-1]]
    if n > 1:
        lists += [right[:-1] + [0], [n - 1] * n, [1] + right[1:], [], list(reversed(right))[:-1] + [n - 1],
                  right[:-1] + [right[-1] - n]]
    return lists


def shape_by(n, is_linked):
    return (n, tuple((i, j) for i, j in combinations(range(n), 2) if is_linked(i, j)))


def ring(n):
    return shape_by(n, lambda i, j: j == i + 1 or (i, j) == (0, n - 1))


def band(n, w):
    return shape_by(n, lambda i, j: j - i <= w)


def tree(n, seed):
    random = Random(seed)
    aheads = [random.randrange(place) for place in range(1, n)]
    return (n, tuple(sorted((ahead, place) for place, ahead in enumerate(aheads, 1))))


def ladder(k):
    return shape_by(2 * k, lambda i, j: j == i + 2 or (i % 2 == 0 and j == i + 1))


def mixed(shape, seed):
    """The same shape with its places called otherwise."""
    names = some_order(Random(seed), shape[0])
    return (shape[0], tuple(sorted((min(names[i], names[j]), max(names[i], names[j])) for i, j in shape[1])))


def tied(world, table, order):
    """The least number of places whose own table can't be undone, or None."""
    for k in range(1, len(order) + 1):
        if determinant(world, part_of(table, order[:k], order[:k])) == world.of(0):
            return k
    return None


def ordered_tables(worlds, sizes, seed=1):
    """Square tables of all sorts, with orders and aims."""
    for world in worlds:
        for n in sizes:
            random = Random(f"{world.told()} {n} {seed}")
            for table in tables_of(world, n, n, seed) + [one_table(world, n)]:
                for turn in range(3):
                    yield world, table, some_order(random, n), some_row(world, random, n)


def stepped(world, n, k):
    """A table that can be undone, though its first k places are tied, k < n: rows k - 1 and k of the one table are swapped."""
    rows = [ones_at(world, n, place) for place in range(n)]
    rows[k - 1], rows[k] = rows[k], rows[k - 1]
    return rows


def spoil(thing):
    """Changes every list and dict within what was told or handed in, as an asker may."""
    inner = list(thing.values()) if isinstance(thing, dict) else thing
    for each in list(inner):
        if isinstance(each, (list, tuple, dict)):
            spoil(each)
    if isinstance(thing, list):
        thing.append("spoiled")
        thing[0] = "spoiled"
    if isinstance(thing, dict):
        for key in list(thing)[::2]:
            del thing[key]
        thing["spoiled"] = True


def lists_within(thing):
    """Every list and dict that stands in it, itself too."""
    found = [thing] if isinstance(thing, (list, dict)) else []
    if isinstance(thing, (list, tuple, dict)):
        for each in thing.values() if isinstance(thing, dict) else thing:
            found += lists_within(each)
    return found


class Owned:
    """For tests: what is handed in isn't changed or kept, and what is told is new and the asker's own."""

    def owned(self, ask, handed):
        handed = deepcopy(handed)
        before = deepcopy(handed)
        first = ask(*handed)
        right = deepcopy(first)
        self.assertEqual(handed, before)
        within = lists_within(first)
        self.assertEqual(len({id(each) for each in within}), len(within), "one list stands twice in what is told")
        self.assertFalse({id(each) for each in within} & {id(each) for each in lists_within(handed)})
        second = ask(*handed)
        if isinstance(first, (list, tuple, dict)):
            spoil(first)
        self.assertEqual(second, right)
        self.assertEqual(handed, before)
        third = ask(*handed)
        self.assertEqual(third, right)
        spoil(handed)
        self.assertEqual(third, right)
        self.assertEqual(ask(*deepcopy(before)), right)
