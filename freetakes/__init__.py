"""Freetakes: rule books for taking from a heap, and which rules change nothing."""
