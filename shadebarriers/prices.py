"""Cheapest additions: what to add to a table at least cost so that a property holds."""

from shadebarriers.demands import demands_of, least_answers, unmet
from shadebarriers.kinds import is_ascending, is_number
from shadebarriers.marks import is_mark, joined
from shadebarriers.properties import check_property

HIGHEST_PRICE = 1000


def is_price_list(value):
    """Whether any value is a price list: a tuple (prices, rescan)."""
    if not isinstance(value, tuple) or len(value) != 2:
        return False
    prices, rescan = value
    return isinstance(prices, tuple) and _are_prices(prices) and (rescan is None or _is_price(rescan))


def cheapest(table, price_list, word):
    """A pair (total, larger table) for which a property holds, None if there is none; raises BadProperty."""
    check_property(word)
    marks, rescans = table
    prices, rescan = price_list
    offers = _offers(table, prices, word)
    if rescan is not None and not rescans:
        rescanning = _offers((marks, True), prices, word)
        offers.extend([(total + rescan, larger) for total, larger in rescanning])
    return min(offers, key=lambda offer: offer[0], default=None)


def _offers(table, prices, word):
    """The list of pairs (total, larger table) for all least additions of marks that have prices."""
    marks, rescans = table
    price_of = dict(prices)
    additions = least_answers(unmet(demands_of(word, rescans), marks))
    return [
        (sum([price_of[mark] for mark in added]), joined(table, (tuple(sorted(added)), rescans)))
        for added in additions
        if all([mark in price_of for mark in added])
    ]


def _are_prices(value):
    if not all([_is_pair(pair) for pair in value]):
        return False
    return is_ascending([mark for mark, _ in value])


def _is_pair(value):
    return isinstance(value, tuple) and len(value) == 2 and is_mark(value[0]) and _is_price(value[1])


def _is_price(value):
    return is_number(value) and 0 <= value <= HIGHEST_PRICE
