"""Dirservice: a directory service."""
