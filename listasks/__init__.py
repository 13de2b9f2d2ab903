"""Listasks: nested answers from a plain store by one flat question for each list."""
