"""The interface: one list of calls in, one list of answers out."""

from origincert.arguments import all_in_range, argument_count
from origincert.asking import holding, info, list_offers, month_total, statement, sums, tally, where
from origincert.book import Book
from origincert.codes import NOT_OPEN, OUT_OF_RANGE
from origincert.disclosing import disclose
from origincert.ending import tick, withdraw
from origincert.issuing import add_account, add_device, issue, meter, open_up, pass_on
from origincert.moving import accept, cancel, cancel_some, decline, make_offer, move, move_some


def answer_issuing(book, place, arguments):
    if place == 0:
        return open_up(book, arguments[0], arguments[1])
    if place == 1:
        return add_account(book)
    if place == 2:
        return add_device(book, arguments[0], arguments[1])
    if place == 3:
        return pass_on(book, arguments[0], arguments[1])
    if place == 4:
        return meter(book, arguments[0], arguments[1], arguments[2])
    return issue(book, arguments[0], arguments[1])


def answer_moving(book, place, arguments):
    if place == 6:
        return move(book, arguments[0], arguments[1], arguments[2], arguments[3])
    if place == 7:
        return move_some(book, arguments[0], arguments[1], arguments[2], arguments[3])
    if place == 8:
        return cancel(book, arguments[0], arguments[1], arguments[2], arguments[3])
    if place == 9:
        return cancel_some(book, arguments[0], arguments[1], arguments[2], arguments[3])
    if place == 10:
        return make_offer(book, arguments[0], arguments[1], arguments[2], arguments[3])
    if place == 11:
        return accept(book, arguments[0])
    return decline(book, arguments[0])


def answer_ending(book, place, arguments):
    if place == 13:
        return tick(book, arguments[0])
    return withdraw(book, arguments[0], arguments[1])


def answer_asking(book, place, arguments):
    if place == 15:
        return where(book, arguments[0])
    if place == 16:
        return holding(book, arguments[0])
    if place == 17:
        return tally(book, arguments[0], arguments[1])
    if place == 18:
        return statement(book, arguments[0])
    if place == 19:
        return info(book, arguments[0])
    if place == 20:
        return sums(book)
    if place == 21:
        return disclose(book, arguments[0], arguments[1])
    if place == 22:
        return list_offers(book)
    return month_total(book, arguments[0], arguments[1])


def answer_call(book, place, arguments):
    if not all_in_range(place, arguments):
        return [OUT_OF_RANGE]
    if place != 0 and not book.opened:
        return [NOT_OPEN]
    if place <= 5:
        return answer_issuing(book, place, arguments)
    if place <= 12:
        return answer_moving(book, place, arguments)
    if place <= 14:
        return answer_ending(book, place, arguments)
    return answer_asking(book, place, arguments)


def answers(calls):
    book = Book()
    result = []
    at = 0
    while at < len(calls):
        place = calls[at]
        behind = at + 1 + argument_count(place)
        answer = answer_call(book, place, calls[at + 1:behind])
        result.append(len(answer))
        result.extend(answer)
        at = behind
    return result
