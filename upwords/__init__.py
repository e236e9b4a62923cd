"""Upwords: words read from each place of a tree toward its root."""
