"""Stocks: steps out of which rows are made, all rows out of one, and what a row costs."""

from takendown.errors import InvalidNumber, InvalidStock
from takendown.items import is_index, is_step
from takendown.rows import Row, gives_right

MOST_IN_STOCK = 6
MOST_PRICE = 1000
WAIT_WORDS = ("halt", "settle", "drain")


def is_stock(value):
    """Whether any value is a stock."""
    if not isinstance(value, list) or not 1 <= len(value) <= MOST_IN_STOCK:
        return False
    return all([is_step(step) for step in value]) and len(set(value)) == len(value)


def check_stock(value):
    """Raise InvalidStock if any value is no stock."""
    if not is_stock(value):
        raise InvalidStock(value)


def check_number(value, most):
    """Raise InvalidNumber if any value is no integer from 0 to most."""
    if not is_index(value, most + 1):
        raise InvalidNumber(value)


def check_prices(wait, plain):
    """Raise InvalidNumber with the first one of any two values that is no price."""
    check_number(wait, MOST_PRICE)
    check_number(plain, MOST_PRICE)


def check_longest(value):
    """Raise InvalidNumber if any value is no number of steps that rows out of a stock may have."""
    check_number(value, MOST_IN_STOCK)


def longer_choices(choices, many):
    """Return the list of all tuples of unlike indexes below many that are one longer than those of a list."""
    return [chosen + (index,) for chosen in choices for index in range(many) if index not in chosen]


def rows_of(stock, longest):
    """Yield all rows out of a stock of at most longest steps, by their number of steps, then by these' indexes."""
    check_stock(stock)
    check_longest(longest)
    steps = tuple(stock)
    choices = [()]
    for _ in range(longest + 1):
        for chosen in choices:
            taken = tuple([steps[index] for index in chosen])
            if gives_right(taken):
                yield Row(*taken)
        choices = longer_choices(choices, len(steps))


def cost_of(steps, wait, plain):
    """Return the sum of the prices of some steps."""
    return sum([wait if word in WAIT_WORDS else plain for word, _ in steps])


def price(row, *, wait=3, plain=1):
    """Return the price of a row."""
    check_prices(wait, plain)
    return cost_of(row.steps(), wait, plain)
