"""Rillweb: waters that choose."""
