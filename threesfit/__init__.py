"""Threesfit: rules of meeting that fit all threes, and the heaps behind their rows."""
