"""The tests of the package towerback."""
