"""Restcounts: counts of walks, their rests modulo powers of primes, for all n."""
