"""Endnever: little machines, all of them sorted."""
