"""Records: all that a house holds between two acts. A record never changes; each act makes a new one."""

from swornlots.judging import breaking_world


class Record:
    """The stock and its papers, the labels and customers of boxes, all customers in turn, boxes called back, acts."""

    def __init__(self, stock, papers, labels, sent, customers, acts):
        self.stock = stock
        self.papers = papers
        self.labels = labels
        self.sent = sent
        self.customers = customers
        self.acts_done = acts
        self.called = ()

    def after(self, act):
        """A record of its own that is the same, with one act more."""
        result = Record(self.stock, self.papers, self.labels, self.sent, self.customers, (*self.acts_done, act))
        result.called = self.called
        return result

    def with_stock(self, stock):
        """Exchanges the stock; boxes that are gone have no labels and are not sent any more."""
        there = stock.box_names()
        self.stock = stock
        self.papers = self.papers.copy_for(stock)
        self.labels = {box: claim for box, claim in self.labels.items() if box in there}
        self.sent = {box: customer for box, customer in self.sent.items() if box in there}
        self.called = tuple([box for box in self.called if box in there])

    def with_label(self, box, claim):
        """Puts a sure claim on a box, or takes its label away for None."""
        self.labels = {other: told for other, told in self.labels.items() if other != box}
        if claim is not None:
            self.labels[box] = claim
        self.called = tuple([other for other in self.called if other != box])

    def with_customer(self, box, customer):
        """Sends a box."""
        self.sent = {**self.sent, box: customer}
        if customer not in self.customers:
            self.customers = (*self.customers, customer)

    def with_papers(self, papers, fewer, more):
        """Exchanges the papers, by which there are fewer worlds than before, or more, or both."""
        before = self.called
        self.papers = papers
        self.called = tuple([box for box in self.in_turn(self.labels)
                             if self.is_called(box, box in before, fewer, more)])

    def is_called(self, box, before, fewer, more):
        """Whether a label is not sure, where it is known whether it was not sure before."""
        if not (fewer if before else more):
            return before
        world, _ = breaking_world(self.papers, self.stock.content(box), self.labels[box])
        return world is not None

    def in_turn(self, boxes):
        """Those of the boxes that are there, in the order of packing."""
        return [box for box in self.stock.box_names() if box in boxes]
