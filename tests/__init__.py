"""The tests of heapeffects."""
