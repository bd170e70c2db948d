"""Onechange: lists in which each thing comes of the one ahead by one small change."""
