"""What a book tells, how many entries have each fate, and the islands of boxes."""

from boxnarrow.spans import common, hull

TOLD_WORDS = ("full", "one", "small", "waits")


def told(book):
    return [(number, entry[1][0], list(entry[0])) for number, entry in enumerate(book) if entry[1][0] in TOLD_WORDS]


def counts(book):
    words = [entry[1][0] for entry in book]
    return (words.count("one"), words.count("full"), words.count("small"), words.count("waits"), words.count("out"))


def touch(box, other):
    return all([common(one, two) is not None for one, two in zip(box, other)])


def touches_one(boxes, numbers, box):
    return any([touch(boxes[number], box) for number in numbers])


def groups_of(boxes):
    groups = []
    for number, box in enumerate(boxes):
        grown = [number]
        apart = []
        # A box that touches several groups joins them.
        for numbers in groups:
            if touches_one(boxes, numbers, box):
                grown.extend(numbers)
            else:
                apart.append(numbers)
        groups = apart + [sorted(grown)]
    return sorted(groups)


def hull_of(boxes):
    whole = boxes[0]
    for box in boxes:
        whole = [hull(one, two) for one, two in zip(whole, box)]
    return whole


def islands(boxes):
    return [(numbers, hull_of([boxes[number] for number in numbers])) for numbers in groups_of(boxes)]
