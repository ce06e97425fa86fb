"""What a row of signs is made of beside its signs: checks, the head, and the number of planes."""

from halvedpictures.checks import check_number, check_numbers

MOST_PLANES = 30


def check_of(text):
    """Tell the check of a text, in two figures."""
    number = 0
    for sign in text:
        number = (10 * number + ord(sign) - ord(" ")) % 97
    return str(number).zfill(2)


def head_of(plan, planes):
    """Tell the head of a row of signs of a plan and so many planes."""
    check_number(planes, MOST_PLANES)
    way = plan.way() if plan.way() != "" else "-"
    told = f"halved {plan.height()} {plan.width()} {plan.rule().word()} {way} {planes} "
    return told + check_of(told) + ":"


def planes_of(plan, numbers):
    """Tell the least number of planes such that the absolute values of all numbers are below 2 to it."""
    check_numbers(plan, numbers)
    return max([abs(number) for number in numbers.flat()]).bit_length()
