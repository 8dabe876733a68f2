"""Nearestword: codes over small fields, their nearest words, and decoders."""
