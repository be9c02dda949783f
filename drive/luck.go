package drive

// spread is near 2^64 divided by the golden ratio: its multiples lie far from one another.
const spread = 0x9E3779B97F4A7C15

// luck is the draws, and how often one was asked for.
type luck struct {
	draws []int
	asked int
}

// pick: a number from 0 to below n (above 0), by the next draw. What lacks is 0.
func (l *luck) pick(n int) int {
	draw := 0
	if l.asked < len(l.draws) {
		draw = l.draws[l.asked]
	}
	l.asked++
	// Spread by how often was asked, zeros too don't pick the same again and again: so a search without draws shakes in many ways.
	word := (uint64(draw) + uint64(l.asked)) * spread
	return int(word >> 32 % uint64(n))
}

// read: how many draws were read.
func (l *luck) read() int { return min(l.asked, len(l.draws)) }
