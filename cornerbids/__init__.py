"""Cornerbids: what comes out if everybody bids for their wish."""
