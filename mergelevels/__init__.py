"""Mergelevels: levels at which items join."""
