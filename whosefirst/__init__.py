"""Whosefirst: which came first, for whoever flies by and whoever looks."""
