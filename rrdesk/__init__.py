"""Rrdesk: a desk that gives turns."""
