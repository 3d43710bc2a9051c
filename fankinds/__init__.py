"""Fankinds: what holds in every house that ends."""
