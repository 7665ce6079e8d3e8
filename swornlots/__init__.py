"""Swornlots: goods made of lots, and claims that hold in every world the papers allow."""
