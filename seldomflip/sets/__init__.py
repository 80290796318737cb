"""Regular sets of logs: machines, sets, closures and chains."""
