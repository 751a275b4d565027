"""Programs that pass names: pieces, standings, moves, graphs and runs."""
