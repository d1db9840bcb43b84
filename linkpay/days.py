"""Steps from the pieces that somebody holds to one link more."""

from linkpay.errors import NoAmount, NoPayment
from linkpay.pay import check_few_opened, payment
from linkpay.rows import rises_below, sizes


def held_amount(links, opened, held):
    told = sizes(links, opened)
    count = len(told)
    if not rises_below(held, count):
        raise NoAmount(f"the held pieces are a rising list of numbers from 0 and below {count}")
    return sum([told[number] for number in held])


def payment_on_the_day(links, opened, amount):
    # Behind the last day payment would refuse the amount itself; here there is no next amount.
    found = payment(links, opened, amount) if amount <= links else None
    if found is None:
        raise NoPayment(f"{amount} of {links} links can not be handed over")
    return found


def step(links, opened, held):
    check_few_opened(links, opened)
    wanted = payment_on_the_day(links, opened, held_amount(links, opened, held) + 1)
    given = [number for number in wanted if number not in held]
    taken_back = [number for number in held if number not in wanted]
    return (given, taken_back)
