"""Prices: what a run costs if each deed is paid by the price of its place."""

from betweencoats.errors import BadPrice, BadSize
from betweencoats.same import check_standings, right_link
from betweencoats.work import deeds_due

HIGHEST = 1000


def check_prices(world, prices):
    """Refuse prices that are not one for each place, each 0 to 1000."""
    if len(prices) != world.net.many:
        raise BadSize(len(prices))
    for at, price in enumerate(prices):
        if not 0 <= price <= HIGHEST:
            raise BadPrice(at)


def cost(world, a, b, prices):
    """The least price of a run from a to b, or None."""
    check_standings(world, (a, b))
    check_prices(world, prices)
    rows = right_link(world, a, b)
    if rows is None:
        return None
    return sum([price * many for price, many in zip(prices, deeds_due(rows))])
