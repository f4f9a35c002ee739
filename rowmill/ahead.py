"""Words handed ahead: those that boxes will hold behind the rows that are still on their way."""


# The pairs are told the youngest first, so the first of a box is the one done last.
def had(box, boxes, flying):
    if box == 0:
        return (True, 0)
    for pair in flying:
        if pair[0] == box:
            return (pair[1] is not None, pair[1])
    return (True, boxes[box])


def all_had(reads, boxes, flying):
    answers = [had(box, boxes, flying) for box in reads]
    if not all([answer[0] for answer in answers]):
        return None
    return tuple([answer[1] for answer in answers])
