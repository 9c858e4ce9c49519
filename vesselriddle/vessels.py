"""The calls on a line's vessels, and what they answer."""

from vesselriddle.deeds import come_to, proves, those_with, way_to
from vesselriddle.ratios import NOTHING, common_measure, is_more, lesser, lowest, minus, over, plus, times

MOST_VESSELS = 3
LARGEST_SIZE = 12
KINDS = 3
LARGEST_TOLD_PART = 1000

# By the number of the call, how many numbers are told behind its own. Check is the one call with a row: of it the last
# of these numbers is how many the row has, which comes behind.
TOLD = (1, 2, 1, 2, 4, 0, 2, 3, 1, 3, 4, 0, 0)
CHECK = 10

OUT_OF_RANGE = -1
ONE_VESSEL = -3
NOT_SO = -4
NO_PLACE = -5
NOT_WHOLE = -6


def is_within(number, least, most):
    return least <= number and number <= most


def is_kind(number):
    return is_within(number, 0, KINDS - 1)


def shares_of_one_kind(kind):
    shares = [0 for other in range(KINDS)]
    shares[kind] = 1
    return shares


def mixed_shares(content, shares, total, others):
    """The shares of a mixture: of a content with these shares and a total with the others."""
    # How much one share is on either side: as these stand to one another, so the shares count in the mixture.
    one_share = over(content, (sum(shares), 1))
    one_other = over(total, (sum(others), 1))
    weight = over(one_share, one_other)
    return [shares[kind] * weight[0] + others[kind] * weight[1] for kind in range(KINDS)]


class Mixture:
    """A content, and of which kinds that is.

    Shares are whole numbers, one for each kind, that stand to one another as the amounts of the kinds do (of nothing
    they say nothing). They're kept, not the amounts: what is taken out leaves them as they are, and they need not be
    in lowest terms, which takes long where there are many digits and is asked for only by what is answered.
    """

    def __init__(self):
        self.content = NOTHING
        self.shares = []
        self.known_strengths = []

    def put(self, total, shares):
        """Puts so much with these shares into it; where it's nothing, the shares may say nothing either."""
        if total != NOTHING:
            if self.content == NOTHING:
                self.shares = list(shares)
            else:
                self.shares = mixed_shares(self.content, self.shares, total, shares)
            self.content = plus(self.content, total)
            self.known_strengths = []

    def take(self, total):
        self.content = minus(self.content, total)

    def strengths(self):
        """Which part of the content each kind is; that is not nothing. They're kept until they change."""
        if len(self.known_strengths) == 0:
            whole = sum(self.shares)
            self.known_strengths = [lowest(share, whole) for share in self.shares]
        return self.known_strengths

    def amounts(self):
        if self.content == NOTHING:
            return [NOTHING for kind in range(KINDS)]
        return [times(self.content, strength) for strength in self.strengths()]


class Vessel(Mixture):
    """A size, and what is in it."""

    def __init__(self, size):
        Mixture.__init__(self)
        self.size = size

    def room(self):
        return minus((self.size, 1), self.content)


class Line:
    """What the calls of one line are about: the vessels, how much of each kind was put in, and what is gone.

    What is gone is a mixture too: to sum its amounts drain by drain would bring each to lowest terms.
    """

    def __init__(self):
        self.vessels = []
        self.filled = [NOTHING for kind in range(KINDS)]
        self.gone = Mixture()

    def has_vessel(self, number):
        return is_within(number, 0, len(self.vessels) - 1)

    def sizes(self):
        return [vessel.size for vessel in self.vessels]

    def is_whole(self):
        return all([vessel.content[1] == 1 for vessel in self.vessels])

    def contents(self):
        """The contents as they are; they're whole numbers."""
        return tuple([vessel.content[0] for vessel in self.vessels])


def move(source, target, total):
    target.put(total, source.shares)
    source.take(total)
    return [0, total[0], total[1]]


def call_vessel(line, told):
    size = told[0]
    if not is_within(size, 1, LARGEST_SIZE):
        return [OUT_OF_RANGE]
    if len(line.vessels) == MOST_VESSELS:
        return [NO_PLACE]
    line.vessels.append(Vessel(size))
    return [0, len(line.vessels) - 1]


def call_fill(line, told):
    number = told[0]
    kind = told[1]
    if not line.has_vessel(number) or not is_kind(kind):
        return [OUT_OF_RANGE]
    vessel = line.vessels[number]
    total = vessel.room()
    vessel.put(total, shares_of_one_kind(kind))
    line.filled[kind] = plus(line.filled[kind], total)
    return [0, total[0], total[1]]


def call_drain(line, told):
    number = told[0]
    if not line.has_vessel(number):
        return [OUT_OF_RANGE]
    vessel = line.vessels[number]
    return move(vessel, line.gone, vessel.content)


def pair_refusal(line, a, b):
    """Why nothing can be poured from vessel a into vessel b; 0 if it can."""
    if not line.has_vessel(a) or not line.has_vessel(b):
        return OUT_OF_RANGE
    if a == b:
        return ONE_VESSEL
    return 0


def call_pour(line, told):
    refusal = pair_refusal(line, told[0], told[1])
    if refusal < 0:
        return [refusal]
    source = line.vessels[told[0]]
    target = line.vessels[told[1]]
    return move(source, target, lesser(source.content, target.room()))


def call_some(line, told):
    if not is_within(told[2], 0, LARGEST_TOLD_PART) or not is_within(told[3], 1, LARGEST_TOLD_PART):
        return [OUT_OF_RANGE]
    refusal = pair_refusal(line, told[0], told[1])
    if refusal < 0:
        return [refusal]
    source = line.vessels[told[0]]
    target = line.vessels[told[1]]
    total = lowest(told[2], told[3])
    if is_more(total, source.content) or is_more(total, target.room()):
        return [NOT_SO]
    return move(source, target, total)


def call_state(line, told):
    answer = [0]
    for vessel in line.vessels:
        answer.append(vessel.size)
        answer.extend(vessel.content)
        for amount in vessel.amounts():
            answer.extend(amount)
    return answer


def call_strength(line, told):
    number = told[0]
    kind = told[1]
    if not line.has_vessel(number) or not is_kind(kind):
        return [OUT_OF_RANGE]
    vessel = line.vessels[number]
    if vessel.content == NOTHING:
        return [NOT_SO]
    strength = vessel.strengths()[kind]
    return [0, strength[0], strength[1]]


def is_tap(number):
    return is_within(number, 0, 1)


def is_question(line, told):
    """Whether the first three numbers are a tap, a vessel and an amount that may be asked for."""
    return is_tap(told[0]) and line.has_vessel(told[1]) and is_within(told[2], 0, LARGEST_SIZE)


def call_way(line, told):
    if not is_question(line, told):
        return [OUT_OF_RANGE]
    if not line.is_whole():
        return [NOT_WHOLE]
    origins = come_to(line.sizes(), line.contents(), told[0])
    ends = those_with(origins, told[1], told[2])
    if len(ends) == 0:
        return [0, 0]
    return [0, 1] + way_to(origins, ends[0])


def call_can(line, told):
    if not is_tap(told[0]):
        return [OUT_OF_RANGE]
    if not line.is_whole():
        return [NOT_WHOLE]
    amounts = []
    for contents in come_to(line.sizes(), line.contents(), told[0]):
        amounts.extend(contents)
    return [0] + sorted(set(amounts))


def call_proof(line, told):
    if not is_question(line, told):
        return [OUT_OF_RANGE]
    if not line.is_whole():
        return [NOT_WHOLE]
    origins = come_to(line.sizes(), line.contents(), told[0])
    if len(those_with(origins, told[1], told[2])) > 0:
        return [NOT_SO]
    answer = [0]
    for contents in origins:
        answer.extend(contents)
    return answer


def is_row(line, row):
    """Whether the row can be parted into contents of the vessels, of which there is one at least."""
    return len(row) % len(line.vessels) == 0 and all([is_within(number, 0, LARGEST_SIZE) for number in row])


def call_check(line, told):
    row = told[TOLD[CHECK]:]
    if not is_question(line, told) or not is_row(line, row):
        return [OUT_OF_RANGE]
    if not line.is_whole():
        return [NOT_WHOLE]
    if proves(line.sizes(), line.contents(), told[0], told[1], told[2], row):
        return [0, 1]
    return [0, 0]


def call_gcd(line, told):
    measure = 0
    for size in line.sizes():
        measure = common_measure(measure, size)
    return [0, measure]


def call_ledger(line, told):
    answer = [0]
    for amount in line.filled + line.gone.amounts():
        answer.extend(amount)
    return answer


# By the number of the call: what it does.
WORKS = (call_vessel, call_fill, call_drain, call_pour, call_some, call_state, call_strength, call_way, call_can,
         call_proof, call_check, call_gcd, call_ledger)


def behind_call(calls, at):
    """Where the call that begins at this place is at its end."""
    behind = at + 1 + TOLD[calls[at]]
    if calls[at] == CHECK:
        return behind + calls[behind - 1]
    return behind


def answers(calls):
    """What the calls of one line answer: for each how many numbers, then these."""
    line = Line()
    given = []
    at = 0
    while at < len(calls):
        work = WORKS[calls[at]]
        behind = behind_call(calls, at)
        answer = work(line, calls[at + 1:behind])
        given.append(len(answer))
        given.extend(answer)
        at = behind
    return given
