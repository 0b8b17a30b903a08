"""Closehaul: sailing by whole numbers, each answer with a paper."""
