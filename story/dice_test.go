package story

import (
	"turnstile/api"
	"turnstile/world"
)

// throws: numbers that look as if dice were thrown, the same each time.
type throws struct{ n uint64 }

func dice(n uint64) *throws { return &throws{n*2654435761 + 88172645463325252} }

// below: a number from 0 to below n.
func (d *throws) below(n int) int {
	d.n ^= d.n << 13
	d.n ^= d.n >> 7
	d.n ^= d.n << 17
	return int((d.n >> 11) % uint64(n))
}

func (d *throws) oneIn(n int) bool { return d.below(n) == 0 }

func (d *throws) key() api.Key { return []api.Key{flow, near, far}[d.below(3)] }

// call of any kind, of few keys.
func (d *throws) call(slots, buckets int) api.Call {
	k := d.key()
	return []api.Call{
		lookFor(k), lookFor(k), addOf(k, 1+d.below(3)), addOf(k, 20), dropOf(k), dropOf(k), sweepOf(d.below(buckets)), listOf(d.below(buckets)), leaveOf(d.below(max(slots, 1))),
	}[d.below(9)]
}

// pick of any kind, mostly one that goes on.
func (d *throws) pick(tasks, slots, buckets int) api.Pick {
	switch n := d.below(40); {
	case n == 0:
		return ticks()
	case n < 10:
		return begins(d.below(tasks), d.call(slots, buckets))
	}
	return goesOn(d.below(tasks))
}

// picks: so many. One task and one slot too far now and then: some of them have an error.
func (d *throws) picks(w api.World, many int) []api.Pick {
	l := make([]api.Pick, many)
	for i := range l {
		far := 0
		if d.oneIn(8) {
			far = 1
		}
		l[i] = d.pick(len(w.Tasks)+far, len(w.M.Slots)+far, len(w.M.Heads))
	}
	return l
}

// past: a call that need not have been; or one of those that were, from and to other picks.
func (d *throws) past(w api.World, l []api.Pick, were []api.Past) api.Past {
	p := done(d.call(len(w.M.Slots), len(w.M.Heads)), api.OK, d.below(len(w.M.Slots)+2)-1)
	if d.oneIn(2) {
		p.E = api.Errno(d.below(10))
	}
	if len(were) > 0 && d.oneIn(2) {
		p = were[d.below(len(were))]
	}
	p.From, p.To = 0, len(l)-1
	if d.oneIn(2) {
		p.From = d.below(len(l) + 1)
		p.To = p.From + d.below(max(len(l)-p.From, 1))
	}
	if d.oneIn(30) {
		p.From = -1
	}
	return p
}

// lively: picks that mostly have no error. A task goes on for a while, the others standing where they are, who looks more often than others; what was found is left soon, so that slots are free again. In every other script time stands still.
func (d *throws) lively(w api.World, many int) []api.Pick {
	var l []api.Pick
	task, calm := 0, d.oneIn(2)
	for len(l) < many {
		t := w.Tasks[task]
		looks := t.Busy && t.F.C.Kind == api.Look
		if d.oneIn(20) || looks && d.oneIn(3) {
			task = d.below(len(w.Tasks))
		}
		x := d.next(w, task)
		if x.Tick && calm {
			continue
		}
		if v, e := world.Do(w, x); e == api.OK {
			w = v
		}
		l = append(l, x)
	}
	return l
}

func (d *throws) next(w api.World, task int) api.Pick {
	t, slots, buckets := w.Tasks[task], len(w.M.Slots), len(w.M.Heads)
	switch {
	case d.oneIn(40):
		return ticks()
	case d.oneIn(40):
		return d.pick(len(w.Tasks)+1, slots+1, buckets)
	case t.Busy:
		return goesOn(task)
	case len(t.Held) > 0 && !d.oneIn(3):
		return begins(task, leaveOf(t.Held[0]))
	}
	return begins(task, d.likely(w, d.call(slots, buckets)))
}

// likely: a Look or a Drop is mostly of a key that is mapped, so that something comes of it.
func (d *throws) likely(w api.World, c api.Call) api.Call {
	flows, _ := world.Flows(w)
	if len(flows) > 0 && (c.Kind == api.Look || c.Kind == api.Drop) && !d.oneIn(3) {
		c.K = flows[d.below(len(flows))].K
	}
	return c
}
