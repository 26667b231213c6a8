"""Packing: few boxes for all parts for which some tests take the same way."""

from whatpasses.spreads import lowest


def settled(survey, boxes, calls):
    """The boxes without what is not asked for any more: there the least answer is chosen.

    calls has for each test that is still to be run a dict with the call texts that it mentions. Of boxes that differ by
    what is not asked for alone the lightest one stays.
    """
    lightest = {}
    for box in boxes:
        asked = {}
        chosen = {}
        for path, mask in box.items():
            if any([all([call in mentioned for call in path]) for mentioned in calls]):
                asked[path] = mask
            elif lowest(mask) > 0:
                chosen[path] = 1 << lowest(mask)
        key = tuple(sorted(list(asked.items())))
        heaviness = survey.heaviness_of(chosen)
        if key not in lightest or heaviness < lightest[key][0]:
            lightest[key] = (heaviness, {**asked, **chosen})
    return [box for _, box in lightest.values()]


def joined_by(survey, path, boxes):
    """The boxes, where those that differ in the answers for this path only are one."""
    full = survey.spread(path[-1]).full
    masks = {}
    for box in boxes:
        others = tuple(sorted([(other, mask) for other, mask in box.items() if other != path]))
        masks[others] = masks.get(others, 0) | (box[path] if path in box else full)
    found = []
    for others, mask in masks.items():
        box = {other: own for other, own in others}
        if mask != full:
            box[path] = mask
        found.append(box)
    return found


def joined(survey, boxes):
    """The same parts in fewer boxes: those that differ in the answers for one path only become one."""
    found = boxes
    many = len(boxes) + 1
    while 1 < len(found) < many:
        many = len(found)
        for path in sorted(set([path for box in found for path in box])):
            found = joined_by(survey, path, found)
    return found
