"""Surejoin: many threads, boxes that only grow, one outcome."""
