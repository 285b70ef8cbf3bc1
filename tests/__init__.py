"""Tests of the package eachsome."""
