"""A bill: what is written on it, who holds it and how far it has come."""

RUNNING = "running"
PAID = "paid"
UNPAID = "unpaid"
PROTESTED = "protested"


class Bill:
    """One bill. Its places are pairs (house, bound): drawee, drawer, then those who signed."""

    def __init__(self, drawer, drawee, payee, amount, due, bound):
        self.drawee = drawee
        self.payee = payee
        self.amount = amount
        self.due = due
        self.places = [(drawee, False), (drawer, bound)]
        self.keeper = payee
        self.phase = RUNNING
        self.issue = 1
        self.blank = False

    def written(self):
        """Tell what no deed changes: drawer, drawee, payee, amount and due day."""
        # No deed strikes place 1, so the drawer stands there from first to last.
        return self.places[1][0], self.drawee, self.payee, self.amount, self.due

    def doubled(self):
        """Tell a bill of its own that is alike."""
        drawer, bound = self.places[1]
        other = Bill(drawer, self.drawee, self.payee, self.amount, self.due, bound)
        other.places = list(self.places)
        other.keeper = self.keeper
        other.phase = self.phase
        other.issue = self.issue
        other.blank = self.blank
        return other
