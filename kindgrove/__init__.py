"""Kindgrove: search trees for any kind of key, and whether they find everything."""
