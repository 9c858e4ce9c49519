"""What the tests share: calls by name, answers parted, and a model that follows the document word by word."""

from fractions import Fraction

from vesselriddle.vessels import answers

HUGE = 1000000000000000000


def vessel(size):
    return [0, size]


def fill(number, kind):
    return [1, number, kind]


def drain(number):
    return [2, number]


def pour(a, b):
    return [3, a, b]


def some(a, b, p, q):
    return [4, a, b, p, q]


def state():
    return [5]


def strength(number, kind):
    return [6, number, kind]


def way(tap, number, n):
    return [7, tap, number, n]


def can(tap):
    return [8, tap]


def proof(tap, number, n):
    return [9, tap, number, n]


def check(tap, number, n, row):
    return [10, tap, number, n, len(row)] + list(row)


def gcd():
    return [11]


def ledger():
    return [12]


def joined(calls):
    return [number for call in calls for number in call]


def parted(given):
    """The list that is given back, parted into one list for each call."""
    parts = []
    at = 0
    while at < len(given):
        count = given[at]
        parts.append(given[at + 1:at + 1 + count])
        if count < 1 or len(parts[-1]) != count:
            raise AssertionError(f"no answer of {count} numbers at {at}")
        at += 1 + count
    return parts


def ask(*calls):
    """One answer for each call of a new line."""
    parts = parted(answers(joined(calls)))
    if len(parts) != len(calls):
        raise AssertionError(f"{len(parts)} answers to {len(calls)} calls")
    return parts


def last(*calls):
    return ask(*calls)[-1]


def shown(*numbers):
    return [n for x in numbers for n in (Fraction(x).numerator, Fraction(x).denominator)]


def deeds(count, tap):
    """The deeds on so many vessels by their numbers, each a name and what it is done to."""
    one = [(name, k) for name in ("fill", "empty") for k in range(count)] if tap else []
    return one + [("pour", a, b) for a in range(count) for b in range(count) if a != b]


def done(sizes, contents, deed):
    """The contents behind a deed."""
    new = list(contents)
    if deed[0] == "fill":
        new[deed[1]] = sizes[deed[1]]
    elif deed[0] == "empty":
        new[deed[1]] = 0
    else:
        name, a, b = deed
        while new[a] > 0 and new[b] < sizes[b]:
            new[a] -= 1
            new[b] += 1
    return tuple(new)


def first_ways(sizes, start, tap):
    """What can be come to, in order, each with its first way; the ways are compared whole, one with another."""
    ways = {start: ()}
    level = {start: ()}
    while level:
        further = {}
        for contents, before in level.items():
            for number, deed in enumerate(deeds(len(sizes), tap)):
                found = done(sizes, contents, deed)
                if found not in ways:
                    further[found] = min(further.get(found, before + (number,)), before + (number,))
        ways.update(further)
        level = further
    return sorted(ways.items(), key=lambda item: (len(item[1]), item[1]))


class Model:
    """The calls, by Python's own fractions; contents are summed anew each time."""

    def __init__(self):
        self.sizes = []
        self.held = []
        self.put_in = [Fraction(0)] * 3
        self.gone = [Fraction(0)] * 3

    def answer(self, call):
        work = (self.vessel, self.fill, self.drain, self.pour, self.some, self.state, self.strength, self.way, self.can,
                self.proof, self.check, self.gcd, self.ledger)[call[0]]
        return work(*call[1:])

    def there(self, *numbers):
        return all(number in range(len(self.sizes)) for number in numbers)

    def content(self, number):
        return sum(self.held[number], Fraction(0))

    def room(self, number):
        return self.sizes[number] - self.content(number)

    def move(self, a, b, amount):
        content = self.content(a)
        for kind in range(3):
            part = self.held[a][kind] * amount / content if content else Fraction(0)
            self.held[a][kind] -= part
            self.held[b][kind] += part
        return [0] + shown(amount)

    def vessel(self, size):
        if size not in range(1, 13):
            return [-1]
        if len(self.sizes) == 3:
            return [-5]
        self.sizes.append(size)
        self.held.append([Fraction(0)] * 3)
        return [0, len(self.sizes) - 1]

    def fill(self, number, kind):
        if not self.there(number) or kind not in range(3):
            return [-1]
        amount = self.room(number)
        self.held[number][kind] += amount
        self.put_in[kind] += amount
        return [0] + shown(amount)

    def drain(self, number):
        if not self.there(number):
            return [-1]
        amount = self.content(number)
        self.gone = [before + more for before, more in zip(self.gone, self.held[number])]
        self.held[number] = [Fraction(0)] * 3
        return [0] + shown(amount)

    def pour(self, a, b):
        if not self.there(a, b):
            return [-1]
        if a == b:
            return [-3]
        return self.move(a, b, min(self.content(a), self.room(b)))

    def some(self, a, b, p, q):
        if not self.there(a, b) or p not in range(1001) or q not in range(1, 1001):
            return [-1]
        if a == b:
            return [-3]
        amount = Fraction(p, q)
        if amount > self.content(a) or amount > self.room(b):
            return [-4]
        return self.move(a, b, amount)

    def state(self):
        answer = [0]
        for number, size in enumerate(self.sizes):
            answer += [size] + shown(self.content(number), *self.held[number])
        return answer

    def strength(self, number, kind):
        if not self.there(number) or kind not in range(3):
            return [-1]
        if self.content(number) == 0:
            return [-4]
        return [0] + shown(self.held[number][kind] / self.content(number))

    def contents(self):
        return tuple(self.content(number) for number in range(len(self.sizes)))

    def whole(self):
        return all(content.denominator == 1 for content in self.contents())

    def reach(self, tap):
        return first_ways(self.sizes, tuple(map(int, self.contents())), tap)

    def asked(self, tap, number, n):
        return tap in (0, 1) and self.there(number) and n in range(13)

    def way(self, tap, number, n):
        if not self.asked(tap, number, n):
            return [-1]
        if not self.whole():
            return [-6]
        found = [first for contents, first in self.reach(tap) if contents[number] == n]
        return [0, 1, *found[0]] if found else [0, 0]

    def can(self, tap):
        if tap not in (0, 1):
            return [-1]
        if not self.whole():
            return [-6]
        reach = self.reach(tap)
        return [0] + [n for n in range(13) if any(n in contents for contents, first in reach)]

    def proof(self, tap, number, n):
        if not self.asked(tap, number, n):
            return [-1]
        if not self.whole():
            return [-6]
        reach = self.reach(tap)
        if any(contents[number] == n for contents, first in reach):
            return [-4]
        return [0] + [content for contents, first in reach for content in contents]

    def check(self, tap, number, n, count, *row):
        if not self.asked(tap, number, n) or count % len(self.sizes) or not all(told in range(13) for told in row):
            return [-1]
        if not self.whole():
            return [-6]
        told = set(zip(*[iter(row)] * len(self.sizes)))
        closed = all(done(self.sizes, contents, deed) in told for contents in told
                     for deed in deeds(len(self.sizes), tap))
        clear = all(contents[number] != n for contents in told)
        return [0, int(self.contents() in told and closed and clear)]

    def gcd(self):
        common = [m for m in range(1, 13) if all(size % m == 0 for size in self.sizes)]
        return [0, max(common) if self.sizes else 0]

    def ledger(self):
        return [0] + shown(*self.put_in, *self.gone)


def model_answers(calls):
    """What is to be given back for a list of calls, each a list of its own."""
    model = Model()
    given = []
    for call in calls:
        answer = model.answer(call)
        given += [len(answer)] + answer
    return given
