"""What the tests share: calls by name, answers parted, and a model that follows the document word by word."""

from fractions import Fraction

from vesselriddle.vessels import answers

HUGE = 1000000000000000000


def vessel(size):
    return [0, size]


def fill(number, kind):
    return [1, number, kind]


def drain(number):
    return [2, number]


def pour(a, b):
    return [3, a, b]


def some(a, b, p, q):
    return [4, a, b, p, q]


def state():
    return [5]


def strength(number, kind):
    return [6, number, kind]


def joined(calls):
    return [number for call in calls for number in call]


def parted(given):
    """The list that is given back, parted into one list for each call."""
    parts = []
    at = 0
    while at < len(given):
        count = given[at]
        parts.append(given[at + 1:at + 1 + count])
        if count < 1 or len(parts[-1]) != count:
            raise AssertionError(f"no answer of {count} numbers at {at}")
        at += 1 + count
    return parts


def ask(*calls):
    """One answer for each call of a new line."""
    parts = parted(answers(joined(calls)))
    if len(parts) != len(calls):
        raise AssertionError(f"{len(parts)} answers to {len(calls)} calls")
    return parts


def last(*calls):
    return ask(*calls)[-1]


def shown(*numbers):
    return [n for x in numbers for n in (Fraction(x).numerator, Fraction(x).denominator)]


class Model:
    """The calls 0 to 6, by Python's own fractions; contents are summed anew each time."""

    def __init__(self):
        self.sizes = []
        self.held = []

    def answer(self, call):
        work = (self.vessel, self.fill, self.drain, self.pour, self.some, self.state, self.strength)[call[0]]
        return work(*call[1:])

    def there(self, *numbers):
        return all(number in range(len(self.sizes)) for number in numbers)

    def content(self, number):
        return sum(self.held[number], Fraction(0))

    def room(self, number):
        return self.sizes[number] - self.content(number)

    def move(self, a, b, amount):
        content = self.content(a)
        for kind in range(3):
            part = self.held[a][kind] * amount / content if content else Fraction(0)
            self.held[a][kind] -= part
            self.held[b][kind] += part
        return [0] + shown(amount)

    def vessel(self, size):
        if size not in range(1, 13):
            return [-1]
        if len(self.sizes) == 3:
            return [-5]
        self.sizes.append(size)
        self.held.append([Fraction(0)] * 3)
        return [0, len(self.sizes) - 1]

    def fill(self, number, kind):
        if not self.there(number) or kind not in range(3):
            return [-1]
        amount = self.room(number)
        self.held[number][kind] += amount
        return [0] + shown(amount)

    def drain(self, number):
        if not self.there(number):
            return [-1]
        amount = self.content(number)
        self.held[number] = [Fraction(0)] * 3
        return [0] + shown(amount)

    def pour(self, a, b):
        if not self.there(a, b):
            return [-1]
        if a == b:
            return [-3]
        return self.move(a, b, min(self.content(a), self.room(b)))

    def some(self, a, b, p, q):
        if not self.there(a, b) or p not in range(1001) or q not in range(1, 1001):
            return [-1]
        if a == b:
            return [-3]
        amount = Fraction(p, q)
        if amount > self.content(a) or amount > self.room(b):
            return [-4]
        return self.move(a, b, amount)

    def state(self):
        answer = [0]
        for number, size in enumerate(self.sizes):
            answer += [size] + shown(self.content(number), *self.held[number])
        return answer

    def strength(self, number, kind):
        if not self.there(number) or kind not in range(3):
            return [-1]
        if self.content(number) == 0:
            return [-4]
        return [0] + shown(self.held[number][kind] / self.content(number))


def model_answers(calls):
    """What is to be given back for a list of calls, each a list of its own."""
    model = Model()
    given = []
    for call in calls:
        answer = model.answer(call)
        given += [len(answer)] + answer
    return given
