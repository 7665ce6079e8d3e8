"""Houses: a stock with its papers, the labels on boxes, and the boxes that were sent."""

from swornlots.claimforms import check_known
from swornlots.claims import check_claim
from swornlots.errors import BadAct, BadName, Bare, Called, Sent, Unsure
from swornlots.forms import is_name
from swornlots.judging import breaking_world, judge
from swornlots.papers import Papers
from swornlots.records import Record
from swornlots.refusals import check_deed
from swornlots.stocks import Stock

# How many items an act with this first word has.
ITEMS = {"do": 2, "paper": 2, "withdraw": 2, "amend": 3, "label": 3, "bare": 2, "send": 3}


def is_act(thing):
    """Whether the thing has the form of an act, whatever stands behind its first word."""
    if not isinstance(thing, tuple) or not thing or not isinstance(thing[0], str):
        return False
    return thing[0] in ITEMS and len(thing) == ITEMS[thing[0]]


class News:
    """What a paper changed: its number, the boxes that are called back now, and those that are not any more."""

    def __init__(self, number, called, cleared):
        self.number = number
        self.called = called
        self.cleared = cleared

    def __eq__(self, other):
        return (isinstance(other, News) and self.number == other.number
                and self.called == other.called and self.cleared == other.cleared)


class House:
    """A house of a plant. All that changes is its record, which each act exchanges."""

    def __init__(self, plant):
        stock = Stock(plant)
        self.plant = plant
        self.begun = None
        self.record = Record(stock, Papers(stock), {}, {}, (), ())

    @classmethod
    def again(cls, plant, acts):
        """A house in which these acts were done."""
        house = cls(plant)
        for act in acts:
            house.act(act)
        return house

    @classmethod
    def opened(cls, plant, state, lore):
        """A house that begins with a state and a lore as its opening."""
        sealed, papers, upcoming, labels, sent, customers = lore
        stock = Stock.opened(plant, state)
        house = cls(plant)
        house.begun = (state, lore)
        told = Papers.opened(stock, sealed, papers, upcoming)
        house.record = Record(stock, told, dict(labels), dict(sent), customers, ())
        house.record.with_papers(told, True, True)
        return house

    @property
    def acts(self):
        """All acts that were done."""
        return self.record.acts_done

    @property
    def opening(self):
        """The pair of the state and the lore with which the house began, or None."""
        return self.begun

    def do(self, deed):
        """Does a deed and tells its number."""
        now = self.record
        check_deed(now.stock.moment, self.plant, deed, now.sent)
        stock = now.stock.copy()
        number = stock.do(deed)
        after = now.after(("do", deed))
        after.with_stock(stock)
        self.record = after
        return number

    def put_paper(self, paper):
        """Puts a paper in force and tells the news."""
        papers = self.own_papers()
        number = papers.put(paper)
        return self.told_news(("paper", paper), number, papers, True, False)

    def withdraw(self, number):
        """Takes a paper out of force and tells the news."""
        papers = self.own_papers()
        papers.withdraw(number)
        return self.told_news(("withdraw", number), number, papers, False, True)

    def amend(self, number, paper):
        """Exchanges a paper that is in force and tells the news."""
        papers = self.own_papers()
        papers.amend(number, paper)
        return self.told_news(("amend", number, paper), number, papers, True, True)

    def own_papers(self):
        """Papers of their own that are as those of the house."""
        return self.record.papers.copy_for(self.record.stock)

    def told_news(self, act, number, papers, fewer, more):
        """Exchanges the papers by an act; they allow fewer worlds, or more, or both."""
        after = self.record.after(act)
        before = after.called
        after.with_papers(papers, fewer, more)
        self.record = after
        called = tuple([box for box in after.called if box not in before])
        return News(number, called, tuple([box for box in before if box not in after.called]))

    def label(self, box, claim):
        """Puts a claim on a box, if it is sure."""
        now = self.record
        check_claim(claim)
        content = self.content_of(box)
        check_known(self.plant, claim)
        self.check_here(box)
        world, _ = breaking_world(now.papers, content, claim)
        if world is not None:
            raise Unsure(box, world)
        after = now.after(("label", box, claim))
        after.with_label(box, claim)
        self.record = after

    def bare(self, box):
        """Takes the label of a box away."""
        self.content_of(box)
        self.check_here(box)
        self.claim_on(box)
        after = self.record.after(("bare", box))
        after.with_label(box, None)
        self.record = after

    def send(self, box, customer):
        """Sends a box to a customer."""
        if not is_name(customer):
            raise BadName(customer)
        self.content_of(box)
        self.check_here(box)
        self.claim_on(box)
        if box in self.record.called:
            raise Called(box)
        after = self.record.after(("send", box, customer))
        after.with_customer(box, customer)
        self.record = after

    def content_of(self, box):
        """The content of a box."""
        self.record.stock.amount(box)
        return self.record.stock.content(box)

    def check_here(self, box):
        """Refuses a box that was sent."""
        if box in self.record.sent:
            raise Sent(box)

    def claim_on(self, box):
        """The label of a box that has one."""
        if box not in self.record.labels:
            raise Bare(box)
        return self.record.labels[box]

    def act(self, act):
        """Does an act and returns what its method returns."""
        if not is_act(act):
            raise BadAct(0)
        word, *told = act
        if word == "do":
            return self.do(*told)
        if word == "paper":
            return self.put_paper(*told)
        if word == "withdraw":
            return self.withdraw(*told)
        if word == "amend":
            return self.amend(*told)
        if word == "label":
            return self.label(*told)
        if word == "bare":
            return self.bare(*told)
        return self.send(*told)

    def stock_now(self):
        """A stock of the caller's own that is as that of the house is now."""
        return self.record.stock.copy()

    def papers_now(self):
        """Papers of the caller's own that are as those of the house are now, with a stock of their own."""
        return self.record.papers.copy_for(self.stock_now())

    def label_of(self, box):
        """The label of a box, or None."""
        self.content_of(box)
        return self.record.labels.get(box)

    def customer_of(self, box):
        """The customer to whom a box was sent, or an empty name."""
        self.content_of(box)
        return self.record.sent.get(box, "")

    def verdict(self, box):
        """The verdict on the label of a box."""
        content = self.content_of(box)
        return judge(self.record.papers, content, self.claim_on(box))

    def lore(self):
        """The lore: papers, labels, sendings and customers."""
        now = self.record
        labels = tuple([(box, now.labels[box]) for box in now.in_turn(now.labels)])
        sent = tuple([(box, now.sent[box]) for box in now.in_turn(now.sent)])
        papers = now.papers
        return (papers.sealed, papers.in_force(), papers.next_number, labels, sent, now.customers)

    def copy(self):
        """A house of its own that is as this one is now."""
        twin = House(self.plant)
        twin.begun = self.begun
        twin.record = self.record
        return twin

    def __eq__(self, other):
        return (isinstance(other, House) and self.plant == other.plant
                and self.opening == other.opening and self.acts == other.acts)
