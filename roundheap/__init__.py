"""Roundheap: the memory of programs that repeat."""
