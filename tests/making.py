"""Things to be handed in, the same ones in each run."""

import random


def some_text(many, below, seed):
    source = random.Random(f"{many} {below} {seed}")
    return [source.randrange(below) for at in range(many)]
