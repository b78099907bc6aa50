"""The tests of the package threesfit."""
