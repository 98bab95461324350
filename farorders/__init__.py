"""Farorders: orders that lie far from one another."""
