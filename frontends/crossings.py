"""The program's one function: a list of calls in, the list of their answers out."""

from frontends.calls import FrontEnd, answer_to, has_row, numbers_due


def answers(calls):
    """Gives for each call, in order, how many numbers are answered, and these."""
    front = FrontEnd()
    given = []
    place = 0
    while place < len(calls):
        call = calls[place]
        numbers_end = place + 1 + numbers_due(call)
        numbers = calls[place + 1:numbers_end]
        row = []
        place = numbers_end
        if has_row(call):
            place = numbers_end + 1 + calls[numbers_end]
            row = calls[numbers_end + 1:place]
        answer = answer_to(front, call, numbers, row)
        given.append(len(answer))
        given.extend(answer)
    return given
