"""Mustread: what a reviewer must read to know whether a change keeps all contracts."""
