package world

import "turnstile/api"

// throws: numbers that look as if dice were thrown, the same each time.
type throws struct{ n uint64 }

func dice(n uint64) *throws { return &throws{n*2654435761 + 88172645463325252} }

// below: a number from 0 to below n.
func (d *throws) below(n int) int {
	d.n ^= d.n << 13
	d.n ^= d.n >> 7
	d.n ^= d.n << 17
	return int((d.n >> 11) % uint64(n))
}

func (d *throws) oneIn(n int) bool { return d.below(n) == 0 }

// call of any kind, of few keys.
func (d *throws) call(slots, buckets int) api.Call {
	k := []api.Key{flow, near, far}[d.below(3)]
	return []api.Call{
		lookFor(k), lookFor(k), addOf(k, 1+d.below(3)), addOf(k, 20), dropOf(k), sweepOf(d.below(buckets)), listOf(d.below(buckets)), leaveOf(d.below(max(slots, 1))),
	}[d.below(8)]
}

// pick of any kind, mostly one that goes on.
func (d *throws) pick(tasks, slots, buckets int) api.Pick {
	switch n := d.below(40); {
	case n == 0:
		return ticks()
	case n < 12:
		return begins(d.below(tasks), d.call(slots, buckets))
	}
	return goesOn(d.below(tasks))
}
