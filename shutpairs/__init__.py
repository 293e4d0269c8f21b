"""Rules that shut out heaps of parts, side by side, and the walk that pairs what keeps them."""
