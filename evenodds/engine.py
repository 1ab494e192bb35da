"""An engine: a current order, the steps that led to it, and questions about it."""

from evenodds.absum import ab_sum
from evenodds.cdread import cd_sum
from evenodds.counts import alphas
from evenodds.crossing import crossing
from evenodds.edits import apply_edit
from evenodds.errors import InvalidQuestion, NoStep
from evenodds.evencheck import uneven_stretch
from evenodds.flagsback import few_numbers
from evenodds.ordertext import format_order
from evenodds.products import prism, pyramid, turned
from evenodds.words import format_sum


def size_text(order):
    """The number of things."""
    return str(order.size)


def height_text(order):
    """The height."""
    return str(order.height)


def even_text(order):
    """Whether the order is even."""
    return "yes" if uneven_stretch(order) is None else "no"


def verdict_text(order):
    """The c-d sum of an even order, or the first uneven stretch of another one."""
    paper = uneven_stretch(order)
    if paper is not None:
        low, high, evens, odds = paper
        return f"uneven {low} {high} {evens} {odds}"
    return "even" if order.height == 0 else "even " + format_sum(cd_sum(order))


def letters_text(order):
    """The letter sum."""
    return format_sum(ab_sum(order))


def sum_text(order):
    """The c-d sum, also of an order that is not even."""
    return format_sum(cd_sum(order))


def few_text(order):
    """The few numbers of the counts."""
    return " ".join([str(number) for number in few_numbers(alphas(order))])


def order_text(order):
    """The text of the order."""
    return format_order(order)


QUESTIONS = {
    "size": size_text,
    "height": height_text,
    "even": even_text,
    "verdict": verdict_text,
    "letters": letters_text,
    "sum": sum_text,
    "few": few_text,
    "order": order_text,
}


def made(order, word):
    """The order that the word makes of the order."""
    if word == "turned":
        return turned(order)
    if word == "pyramid":
        return pyramid(order)
    if word == "prism":
        return prism(order)
    raise InvalidQuestion(word)


class Engine:
    """A current order, the steps that led to it, and those that were undone."""

    def __init__(self, order):
        # The orders from the first one to the current one, and those of the undone steps, the latest one last.
        self._orders = [order]
        self._undone = []

    def __iter__(self):
        return iter(self._orders)

    @property
    def order(self):
        """The current order."""
        return self._orders[-1]

    @property
    def steps(self):
        """The number of steps that can be undone."""
        return len(self._orders) - 1

    @property
    def undone(self):
        """The number of undone steps that can be done again."""
        return len(self._undone)

    def replace_by(self, other):
        """Take the other order as the current one."""
        self._orders.append(other)
        self._undone.clear()
        return other

    def do(self, edit):
        """Edit the current order."""
        return self.replace_by(apply_edit(self.order, edit))

    def do_all(self, edits):
        """Do all edits of the list, each as a step, or none of them if one raises an error."""
        found = [self.order]
        for edit in edits:
            found.append(apply_edit(found[-1], edit))
        for order in found[1:]:
            self.replace_by(order)
        return self.order

    def make(self, word):
        """Turn the current order, or make a pyramid or a prism of it."""
        return self.replace_by(made(self.order, word))

    def cross(self, closed):
        """Take the crossing order of the current one and the closed list."""
        return self.replace_by(crossing(self.order, closed))

    def undo(self):
        """Take back the last step."""
        if self.steps == 0:
            raise NoStep("undo")
        self._undone.append(self._orders.pop())
        return self.order

    def redo(self):
        """Do the step again that was undone most recently."""
        if self.undone == 0:
            raise NoStep("redo")
        self._orders.append(self._undone.pop())
        return self.order

    def is_even(self):
        """True if no stretch of the current order is uneven."""
        return uneven_stretch(self.order) is None

    def ask(self, question):
        """The answer to a question about the current order, as a text."""
        if question not in QUESTIONS:
            raise InvalidQuestion(question)
        answer = QUESTIONS[question]
        return answer(self.order)
