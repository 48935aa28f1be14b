package story

import (
	"slices"
	"testing"

	"turnstile/api"
	"turnstile/world"
)

// The chapter's words, told a second time

// scene: what is mapped at a moment, by key, and the time; or Flows' error.
type scene struct {
	flows map[api.Key]api.Flow
	now   int
	e     api.Errno
}

// scenes: the one ahead of each pick, and the one behind the last. Each is run to from the first one anew.
func scenes(w api.World, l []api.Pick) []scene {
	var out []scene
	for n := range len(l) + 1 {
		v, _, _, _ := world.Run(w, l[:n])
		flows, e := world.Flows(v)
		s := scene{map[api.Key]api.Flow{}, v.M.Now, e}
		for _, f := range flows {
			s.flows[f.K] = f
		}
		out = append(out, s)
	}
	return out
}

// isFor: does what comes between two scenes account for p?
func isFor(p api.Past, a, b scene) bool {
	ahead, was := a.flows[p.C.K]
	behind, is := b.flows[p.C.K]
	fine := p.E == api.OK
	switch {
	case p.C.Kind == api.Look && fine:
		return was && ahead.Slot == p.Slot && ahead.Until > a.now || is && behind.Slot == p.Slot && behind.Until > b.now
	case p.C.Kind == api.Look:
		return !was || !is || ahead.Until <= a.now || behind.Until <= b.now
	case p.C.Kind == api.Add && fine:
		return !was && is && behind.Slot == p.Slot
	case p.C.Kind == api.Add && p.E == api.ErrTwice:
		return was || is
	case p.C.Kind == api.Drop && fine:
		return was && (!is || behind.Slot != ahead.Slot)
	case p.C.Kind == api.Drop:
		return !was || !is
	}
	return true
}

// retold: Witness, s being the scenes of l.
func retold(w api.World, l []api.Pick, s []scene, p api.Past) answer {
	if _, _, _, e := world.Run(w, l); e != api.OK {
		return not(e)
	}
	if p.From < 0 || p.To < p.From || p.To > len(l)-1 {
		return not(api.ErrRange)
	}
	for _, x := range s[:p.To+2] {
		if x.e != api.OK {
			return not(x.e)
		}
	}
	for i := p.From; i <= p.To; i++ {
		if isFor(p, s[i], s[i+1]) {
			return at(i)
		}
	}
	return not(api.ErrWho)
}

// alike asks for a witness, and holds the answer against the chapter as it is told here.
func alike(t *testing.T, w api.World, l []api.Pick, s []scene, p api.Past) answer {
	t.Helper()
	got, want := asks(w, l, p), retold(w, l, s, p)
	if got != want {
		t.Fatalf("%+v of %+v in\n%+v:\n%+v, want %+v", p, l, w, got, want)
	}
	return got
}

// Worlds that nobody made

// astray: something of a world is otherwise; now and then that is wrong.
func (d *throws) astray(w *api.World) {
	m, many, buckets := &w.M, len(w.M.Slots), len(w.M.Heads)
	t := &w.Tasks[d.below(len(w.Tasks))]
	switch d.below(9) {
	case 0:
		m.Heads[d.below(buckets)] = d.below(many+buckets+1) - buckets
	case 1:
		m.Now = []int{0, 2, 9, api.MaxTime - 1, api.MaxTime, -1}[d.below(6)]
	case 2:
		t.Held = append(t.Held, d.below(many+1))
	case 3:
		t.F.C, t.F.At, t.F.Slot = d.call(many, buckets), 4+d.below(3), d.below(many+1)-1
		t.Busy = t.Busy || d.oneIn(2)
		t.F.Done = false
	case 4:
		t.F.Cur, t.F.Prev = d.below(many+buckets+1)-buckets, d.below(many+1)
	}
	if many == 0 {
		return
	}
	s := &m.Slots[d.below(many)]
	switch d.below(9) {
	case 0:
		s.Next = d.below(many+buckets+1) - buckets
	case 1, 4:
		s.K = d.key()
	case 2:
		s.In = !s.In
	case 3:
		s.Until = d.below(12)
	}
}

// wildWorld comes of New by some picks, and is changed then.
func (d *throws) wildWorld(t *testing.T) api.World {
	w := newWorld(t, d.below(5), 1+d.below(2), 1+d.below(3))
	w, _, _, _ = world.Run(w, d.picks(w, d.below(api.MaxScript)))
	for range d.below(4) {
		d.astray(&w)
	}
	return w
}

func TestWitnessInWildWorlds(t *testing.T) {
	d, met, later := dice(1), map[api.Errno]int{}, 0
	for range 6000 {
		w := d.wildWorld(t)
		l := d.picks(w, d.below(40))
		s := scenes(w, l)
		_, _, were, _ := world.Run(w, l)
		for range 6 {
			p := d.past(w, l, were)
			got := alike(t, w, l, s, p)
			met[got.e]++
			if got.e == api.OK && got.i > p.From {
				later++
			}
		}
	}
	for _, e := range []api.Errno{api.OK, api.ErrRange, api.ErrForm, api.ErrWho, api.ErrTwice} {
		if met[e] < 100 {
			t.Errorf("hardly any answer with error %d: %v", e, met)
		}
	}
	if later < 300 {
		t.Errorf("hardly any witness behind From: %d", later)
	}
}

// TestWitnessFromNewOn: the chapter told twice in worlds that can be, of calls that need not have been.
func TestWitnessFromNewOn(t *testing.T) {
	d, met, later := dice(2), map[bool]int{}, 0
	for range 1000 {
		w := newWorld(t, d.below(4), 1+d.below(2), 1+d.below(3))
		l := d.picks(w, d.below(90))
		s := scenes(w, l)
		_, _, were, _ := world.Run(w, l)
		for range 20 {
			p := d.past(w, l, were)
			got := alike(t, w, l, s, p)
			met[got.e == api.OK]++
			if got.e == api.OK && got.i > p.From {
				later++
			}
		}
	}
	if met[false] < 2000 || met[true] < 2000 || later < 500 {
		t.Errorf("answers are mostly alike: %v, %d", met, later)
	}
}

// TestAnythingIsTaken: what is nobody's world, or pick, or past call, ends with an error or a witness, not otherwise.
func TestAnythingIsTaken(t *testing.T) {
	same(t, "nothing", asks(api.World{}, nil, api.Past{}), not(api.ErrMany))
	d := dice(3)
	for range 2000 {
		w := d.wildWorld(t)
		x := func() int { return farOut()[d.below(4)] }
		c := func() api.Call {
			return api.Call{Kind: 1 + d.below(6), K: api.Key{A: x(), B: x()}, Time: x(), Bucket: x(), Slot: x()}
		}
		l := d.picks(w, 1+d.below(9))
		l = append(l, api.Pick{Task: x(), Step: d.oneIn(2), C: c()}, begins(0, c()), goesOn(x()), api.Pick{Tick: true, Step: true, Task: x(), C: c()})
		p := api.Past{Task: x(), C: c(), To: len(l) - 1, E: api.Errno(x()), Slot: x(), N: x(), Keys: []api.Key{{A: x()}}}
		if d.oneIn(2) {
			p.E = api.OK
		}
		s := scenes(w, l)
		alike(t, w, l, s, p)
		p.From, p.To = x(), x()
		alike(t, w, l, s, p)
		if many := &w.Tasks[0]; d.oneIn(2) {
			many.Held = append(many.Held, x())
		} else {
			w.M.Heads = append(w.M.Heads, x())
		}
		same(t, tells(p), asks(w, l, p), not(world.Check(w)))
	}
}

// P2: what is handed in stays

// withRoom: l with room for some more behind it; seen tells of all of it.
func withRoom[T any](l []T, x T, seen *[]func() string) []T {
	long := append(slices.Clone(l), x, x, x)
	*seen = append(*seen, func() string { return tells(long) })
	return long[:len(l)]
}

// roomy: a world, picks and a past call with spare room behind each list, in which something stands.
func roomy(w api.World, l []api.Pick, p api.Past) (api.World, []api.Pick, api.Past, func() string) {
	var seen []func() string
	w.M.Slots = withRoom(w.M.Slots, api.Slot{Refs: 77}, &seen)
	for _, l := range []*[]int{&w.M.Heads, &w.M.Free, &w.M.Locks} {
		*l = withRoom(*l, 77, &seen)
	}
	w.Tasks = withRoom(w.Tasks, api.Task{Held: []int{77}}, &seen)
	for i := range w.Tasks {
		t := &w.Tasks[i]
		t.Held = withRoom(t.Held, 77, &seen)
		t.F.Keys = withRoom(t.F.Keys, api.Key{A: 77}, &seen)
	}
	l = withRoom(l, ticks(), &seen)
	p.Keys = withRoom(p.Keys, api.Key{A: 77}, &seen)
	return w, l, p, func() string {
		s := ""
		for _, f := range seen {
			s += f()
		}
		return s
	}
}

func TestWhatIsHandedInStays(t *testing.T) {
	d, met := dice(4), map[api.Errno]int{}
	for range 1500 {
		w := d.wildWorld(t)
		if d.oneIn(2) {
			w = newWorld(t, 3, 2, 3)
		}
		given := d.picks(w, d.below(60))
		p := d.past(w, given, nil)
		p.Keys = []api.Key{flow, near}[:d.below(3)]
		w, l, p, seen := roomy(w, given, p)
		ahead, number := seen(), tells([]any{w, l, p})
		first := asks(w, l, p)
		if seen() != ahead || tells([]any{w, l, p}) != number {
			t.Fatalf("%s is now\n%s", ahead, seen())
		}
		same(t, "asked again", asks(w, l, p), first)
		met[first.e]++
	}
	if met[api.OK] < 200 || met[api.ErrWho] < 50 || met[api.ErrForm] < 20 {
		t.Errorf("answers are mostly alike: %v", met)
	}
}
