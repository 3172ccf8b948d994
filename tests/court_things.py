"""Makers of COURTS and of rows of deeds, and all that a COURT tells, for the tests alone."""

from ledclocks.court import Court
from tests.net_things import random_net
from tests.things import random_field, refusal_of, true_history, wild_history

ANN = ("ann", (1, 1), (1, 1))
BO = ("bo", (1, 2), (3, 2))
CY = ("cy", (2, 3), (2, 1))
FIELD = ((ANN, BO, CY), (("ann", "bo", (1, 1), (3, 1)), ("ann", "bo", (2, 1), None), ("bo", "ann", (1, 2), (5, 2)),
                         ("bo", "cy", (1, 2), (5, 2))), "ann")
MEMBERS = (("ann", 2, 0), ("bo", 1, 5), ("cy", 1, 7))
WIRES = (("ann", "bo"), ("bo", "cy"))
MARK = ("mark",)
HEAD = ("court", FIELD, MEMBERS, WIRES, 4, 1)
DEEDS = (("note", "ann", (5, 1), ("send", 0)), ("round",), ("note", "bo", (2, 1), ("hear", 0)), ("up", "bo", False),
         ("wire", "bo", "ann", False), ("note", "bo", (7, 2), ("send", 3)), ("round",), ("up", "bo", True),
         ("note", "ann", (9, 1), MARK), ("wire", "ann", "bo", True), ("round",))


def court_of(log):
    """A COURT of a LOG's first row at which its deeds were done, one by one."""
    word, field, members, wires, most, age = log[0]
    court = Court(field, members, wires, most=most, age=age)
    for row in log[1:]:
        do(court, row)
    return court


def do(court, row):
    """Does one row by the deed's own name."""
    deeds = {"note": court.note, "up": court.up, "wire": court.wire, "round": court.go_round}
    return deeds[row[0]](*row[1:])


def random_head(rng):
    members, wires = random_net(rng)
    field = random_field(rng, houses=rng.randint(1, 4))
    return ("court", field, members, wires, rng.randint(0, 6), rng.randint(0, 3))


def random_deeds(rng, head, many, short=False):
    """Rows that are done, none of them refused; short keeps the figures of stamps to nine."""
    word, field, members, wires, most, age = head
    if short or rng.random() < 0.4:
        events = list(wild_history(rng, field, many)[1])
    else:
        events = list(true_history(rng, field, many)[0][1])
    rows = []
    while len(rows) < many:
        choice = rng.random()
        if events and choice < 0.6:
            rows.append(("note",) + events.pop(0))
        elif members and choice < 0.75:
            rows.append(("up", rng.choice(members)[0], rng.random() < 0.6))
        elif wires and choice < 0.9:
            one, other = rng.sample(rng.choice(wires), 2)
            rows.append(("wire", one, other, rng.random() < 0.6))
        else:
            rows.append(("round",))
    return tuple(rows)


def random_log(rng, many=None, short=False):
    head = random_head(rng)
    return (head,) + random_deeds(rng, head, rng.randint(0, 25) if many is None else many, short)


def all_told(court):
    """All that a COURT tells, "any" things aside."""
    many = len(court.history()[1])
    names = [member[0] for member in court.log()[0][2]]
    told = [court.field(), court.history(), court.log(), len(court), str(court), court.follows(), court.leaders(),
            court.stands()[0], court.walks()]
    told.append([court.kept(number) for number in range(many)])
    told.append([heard_told(court, number) for number in range(many)])
    told.append([court.best(name) for name in names])
    told.append([court.elder(k) for k in range(len(court) + 1)])
    told.append([court.now(house[0], (10 ** 9, 1)) for house in court.field()[0]])
    return told


def heard_told(court, number):
    refused = refusal_of(court.heard, number)
    return court.heard(number) if refused is None else refused[0]
