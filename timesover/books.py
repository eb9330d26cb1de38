"""Books: how each hand keeps count of what it has heard, so that what it says is over stays over.

A book is (hand, numbers, counts): whose book it is; for each hand, from 0 to 9, how many of its tellings are counted,
its own ones too; and the counts of all deeds that are, as counts_behind tells them. A telling is (number, changes):
which one of its hand's it is, from 0, and the changes of a deed. Each deed is told at once, as a whole.

That is why points with a count below 0 can be left out of fronts. If a point's count is not above 0, although a work
is, or was, there that the book does not know to be taken, then a deed that was not heard has put it. What this one
took stands ahead of it, and its count is above 0, or the same is so of it. As no point could come to itself again,
this ends at a point with a count above 0, which could come to the first one. So no work is anywhere to which no
counted one could come; and what is heard brings no work to which none could come that was counted ahead of it.
"""

from timesover.crews import MOST_HANDS, check_hand, deed_changes
from timesover.plans import check_place, check_time_at
from timesover.reach import front_by
from timesover.sums import summed
from timesover.times import has_at_most


def first_book(crew, hand):
    """The book with which a hand of the beginning begins."""
    check_hand(hand, crew.hands)
    return (hand, (0,) * MOST_HANDS, summed([(point, 1) for holder, point in crew.works]))


def took(crew, book, taken, put):
    """The book behind a deed of its hand, and the telling of this deed."""
    changes = deed_changes(crew.plan, taken, put)
    hand, numbers, _ = book
    return (counted_book(book, hand, changes), (numbers[hand], changes))


def beat(crew, book):
    """The book as it is, and no telling: all deeds are told when they are done."""
    return (book, None)


def heard(crew, book, hand, telling):
    """The book behind hearing this telling of that hand."""
    check_hand(hand, MOST_HANDS)
    number, changes = telling
    # What is heard again is counted already; of what is new nothing is left out, as tellings are heard in order.
    if number < book[1][hand]:
        return book
    return counted_book(book, hand, changes)


def come(crew, book, hand):
    """The book of a new hand that comes beside the hand with this book."""
    check_hand(hand, MOST_HANDS)
    return (hand, book[1], book[2])


def front(crew, book, place):
    """The least times that can still come to this place, as far as this book says."""
    check_place(crew.plan, place)
    return front_by(crew.tables, [point for point, count in book[2] if count > 0], place)


def over(crew, book, place, time):
    """Whether this time can no longer come to this place, as far as this book says."""
    check_place(crew.plan, place)
    check_time_at(crew.plan, place, time)
    return not has_at_most(front(crew, book, place), time)


def counted_book(book, hand, changes):
    """The book that counts these changes, too: those of the next telling of this hand."""
    numbers = [many + 1 if number == hand else many for number, many in enumerate(book[1])]
    return (book[0], tuple(numbers), summed((*book[2], *changes)))
