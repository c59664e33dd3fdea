"""Towerback: integrals with a paper for each answer."""
