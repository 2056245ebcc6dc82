"""What the document says, reckoned as plainly as may be, for the tests to hold the program against."""

import functools
import itertools

PRIMES = [p for p in range(2, 62) if all(p % k for k in range(2, p))]
SIZES = [(p, m) for p in PRIMES for m in range(1, 7) if p ** m <= 64]


def digits(p, m, one):
    return [one // p ** k % p for k in range(m)]


def number(p, row):
    return sum(digit * p ** k for k, digit in enumerate(row))


def plus(field, one, other):
    p, m, _ = field
    return number(p, [(a + b) % p for a, b in zip(digits(p, m, one), digits(p, m, other))])


def lifted(field, one):
    p, m, top = field
    row = digits(p, m, one)
    last = row[-1]
    moved = [0] + row[:-1]
    return number(p, [(a + last * b) % p for a, b in zip(moved, digits(p, m, top))])


def times(field, one, other):
    p, m, _ = field
    total = [0] * m
    for digit in digits(p, m, one):
        total = [(a + digit * b) % p for a, b in zip(total, digits(p, m, other))]
        other = lifted(field, other)
    return number(p, total)


@functools.lru_cache(maxsize=None)
def parts_nought(field):
    size = field[0] ** field[1]
    for one in range(1, size):
        for other in range(one, size):
            if times(field, one, other) == 0:
                return True
    return False


@functools.lru_cache(maxsize=None)
def least_field(p, m):
    return next((p, m, top) for top in range(p ** m) if not parts_nought((p, m, top)))


class Table:
    """All sums and products of a field, each reckoned once."""

    def __init__(self, field):
        self.field = field
        self.size = field[0] ** field[1]
        self.things = range(self.size)
        self.sums = [[plus(field, a, b) for b in self.things] for a in self.things]
        self.products = [[times(field, a, b) for b in self.things] for a in self.things]

    def negative(self, one):
        return self.sums[one].index(0)

    def powers(self, one):
        """1, one, and on, as far as they are unlike."""
        row = [1]
        while self.products[row[-1]][one] not in row:
            row.append(self.products[row[-1]][one])
        return row

    def power(self, one, many):
        product = 1
        for _ in range(many):
            product = self.products[product][one]
        return product

    def round(self, one):
        return len(self.powers(one))

    def letters(self, few):
        q = self.field[0] ** few
        return tuple(one for one in self.things if self.power(one, q) == one)

    def value(self, row, one):
        total = 0
        for k, thing in enumerate(row):
            total = self.sums[total][self.products[thing][self.power(one, k)]]
        return total

    def row_sum(self, one, other):
        many = max(len(one), len(other))
        pad = lambda row: list(row) + [0] * (many - len(row))
        return trimmed(self.sums[a][b] for a, b in zip(pad(one), pad(other)))

    def row_negative(self, one):
        return tuple(self.negative(thing) for thing in one)

    def row_times(self, one, other):
        total = [0] * (len(one) + len(other))
        for i, j in itertools.product(range(len(one)), range(len(other))):
            total[i + j] = self.sums[total[i + j]][self.products[one[i]][other[j]]]
        return trimmed(total)


@functools.lru_cache(maxsize=None)
def table(field):
    return Table(field)


def trimmed(row):
    row = list(row)
    while row and row[-1] == 0:
        row.pop()
    return tuple(row)


def all_rows(size, longest):
    """All rows of at most so many things."""
    return [row for many in range(longest + 1)
            for row in itertools.product(range(size), repeat=many) if not row or row[-1] != 0]


def nested(make, seed, deep=30):
    thing = seed
    for _ in range(deep):
        thing = make(thing)
    return thing


class Odd:
    """An object that can't be held against anything, or walked, or counted."""

    def refuse(self, *_):
        raise RuntimeError("asked of an odd thing")

    __eq__ = __ne__ = __lt__ = __le__ = __gt__ = __ge__ = refuse
    __len__ = __iter__ = __bool__ = __int__ = __index__ = __getitem__ = __contains__ = refuse
    __hash__ = None


def anything():
    """Things of all kinds, none of them a field, a wheel, a word of letters or a paper."""
    return [
        None, True, False, 0, 1, -1, 2, 64, 10 ** 40, -10 ** 40, "", "2.3.3", "words", b"", b"\x02\x03", [], [0], (),
        (0,), (None,), (True,), ("",), ([],), ({},), ((),), [2, 1, 0], {}, {0: 1}, {2: 1, 3: 0, 4: 5}, set(), {1, 2},
        frozenset(), frozenset([2, 1, 0]), range(3), object(), Odd(), (Odd(), Odd(), Odd()), [Odd()], Ellipsis,
        NotImplemented, len, Odd, int, ValueError("odd"), iter([2, 1, 0]), bytearray(b"a"), (1, 2, 3, 4, 5, 6, 7),
        ((2, 3, 3), 1, 2), ((((2, 3, 3), 1, 2, ()),),),
        nested(lambda x: (x,), ()), nested(lambda x: [x], []), nested(lambda x: {0: x}, {}),
        nested(lambda x: (x, x, x), 0, 12), nested(lambda x: (x, 1, 2, ()), (2, 1, 0)),
        nested(lambda x: (2, 1, x), 0), nested(lambda x: (2, x, 0), 1), nested(lambda x: (x, 1, 0), 2),
    ]


def is_plain(thing):
    """Whether it is made of tuples, whole numbers, texts, truths and None, of just these kinds."""
    if type(thing) is tuple:
        return all(is_plain(part) for part in thing)
    return thing is None or type(thing) in (int, str, bool)


def is_numbers(thing):
    """Whether it is a tuple of whole numbers, none of them a truth."""
    return type(thing) is tuple and all(type(part) is int for part in thing)
