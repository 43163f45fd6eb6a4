"""One to one choices of images."""


def matched(images):
    """A tuple with one of its images for each point, no two alike; there is such a tuple."""
    taken = {}
    for point in range(len(images)):
        give_image(images, taken, point)
    chosen = {point: image for image, point in taken.items()}
    return tuple([chosen[point] for point in range(len(images))])


def give_image(images, taken, first):
    """Gives the point an image, while other points may come to have others than before.

    `taken` has for each image that is given the point that has it.
    """
    asking = {}
    waiting = [first]
    at = 0
    while at < len(waiting):
        point = waiting[at]
        at += 1
        for image in images[point]:
            if image not in asking:
                asking[image] = point
                if image not in taken:
                    hand_on(taken, asking, first, image)
                    return
                waiting.append(taken[image])


def hand_on(taken, asking, first, image):
    """Gives the image to the point that asks for it, the image that this one had to the next, up to the first."""
    held = {point: here for here, point in taken.items()}
    given = image
    point = asking[given]
    while point != first:
        taken[given] = point
        given = held[point]
        point = asking[given]
    taken[given] = first
