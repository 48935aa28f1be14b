package world

import (
	"math"
	"slices"
	"testing"

	"turnstile/api"
	"turnstile/frame"
	"turnstile/mem"
)

// The chapter's words, told a second time

// wrong: Check.
func wrong(w api.World) api.Errno {
	if e := mem.Check(w.M); e != api.OK {
		return e
	}
	if len(w.Tasks) < 1 || len(w.Tasks) > api.MaxTasks {
		return api.ErrRange
	}
	for _, t := range w.Tasks {
		switch {
		case len(t.Held) > api.MaxCalls:
			return api.ErrMany
		case len(t.Held) > 0 && (slices.Min(t.Held) < 0 || slices.Max(t.Held) >= len(w.M.Slots)):
			return api.ErrWho
		case t.Busy && frame.Check(w.M, t.F) != api.OK:
			return frame.Check(w.M, t.F)
		}
	}
	return api.OK
}

// rule: Do.
func rule(w api.World, x api.Pick) (api.World, api.Errno) {
	none := func(e api.Errno) (api.World, api.Errno) { return api.World{}, e }
	if e := wrong(w); e != api.OK {
		return none(e)
	}
	w = copyOf(w)
	if x.Tick {
		if w.M.Now == api.MaxTime {
			return none(api.ErrFull)
		}
		w.M.Now++
		return w, api.OK
	}
	if x.Task < 0 || x.Task >= len(w.Tasks) {
		return none(api.ErrWho)
	}
	t := w.Tasks[x.Task]
	switch {
	case x.Step == !t.Busy:
		return none(api.ErrLate)
	case x.Step && t.F.C.Kind == api.Leave:
		t = leaveRule(&w.M, t)
	case x.Step:
		t.F = stepOf(&w.M, t.F, x.Task)
		t.Busy = !t.F.Done
		if t.F.C.Kind == api.Look && t.F.Done && t.F.E == api.OK {
			t.Held = append(t.Held, t.F.Slot)
		}
	case frame.CheckCall(w.M, x.C) != api.OK:
		return none(frame.CheckCall(w.M, x.C))
	case x.C.Kind == api.Look && len(t.Held) == api.MaxCalls:
		return none(api.ErrFull)
	case x.C.Kind == api.Leave && !slices.Contains(t.Held, x.C.Slot):
		return none(api.ErrTwice)
	default:
		t.Busy, t.F = true, api.Frame{C: x.C, Slot: -1}
	}
	w.Tasks[x.Task] = t
	return w, api.OK
}

func leaveRule(m *api.Mem, t api.Task) api.Task {
	a, rest, met := t.F.C.Slot, []int(nil), false
	for _, b := range t.Held {
		if b == a && !met {
			met = true
			continue
		}
		rest = append(rest, b)
	}
	if n, e := mem.Let(*m, a); met && e == api.OK {
		*m = n
	}
	t.Busy, t.Held, t.F.Done, t.F.E = false, rest, true, api.OK
	return t
}

// Worlds that nobody made

// about: a number from least to most, now and then one beyond.
func (d *throws) about(least, most int) int {
	if d.oneIn(300) {
		return []int{least - 1, most + 1, math.MinInt, math.MaxInt}[d.below(4)]
	}
	return least + d.below(most-least+1)
}

func (d *throws) key() api.Key { return []api.Key{flow, near, side, far}[d.below(4)] }

// wildMem: slots and chains that stand behind each other as they come.
func (d *throws) wildMem() api.Mem {
	many, buckets := d.below(4), 1+d.below(3)
	m := api.Mem{Now: []int{0, 1, 5, api.MaxTime - 1, api.MaxTime}[d.below(5)]}
	for a := range many {
		s := api.Slot{Refs: d.below(3), K: d.key(), Until: d.about(0, 6), In: d.oneIn(2), Next: d.about(-buckets, many)}
		if d.oneIn(10) {
			s.Refs = api.MaxRefs
		}
		if s.Refs == 0 {
			m.Free = append(m.Free, a)
		}
		m.Slots = append(m.Slots, s)
	}
	for b := range buckets {
		n := d.about(-buckets, many)
		if n == 0 {
			n = -1 - b
		}
		m.Heads, m.Locks = append(m.Heads, n), append(m.Locks, d.about(-1, api.MaxTasks-1))
	}
	return m
}

func (d *throws) wildCall(m api.Mem) api.Call {
	return api.Call{Kind: d.about(1, 6), K: d.key(), Time: d.about(1, 3), Bucket: d.about(0, len(m.Heads)-1), Slot: d.about(0, max(len(m.Slots)-1, 0))}
}

func (d *throws) wildTask(m api.Mem) api.Task {
	many := len(m.Slots)
	t := api.Task{Busy: d.oneIn(2), F: api.Frame{
		C: d.wildCall(m), At: d.about(0, 9), Cur: d.about(-len(m.Heads), many), Prev: d.about(0, many), Slot: d.about(-1, many-1),
		N: d.about(0, 3), E: api.Errno(d.below(9)), Done: d.oneIn(200),
	}}
	for range d.below(3) {
		t.F.Keys = append(t.F.Keys, d.key())
	}
	for range d.below(4) {
		t.Held = append(t.Held, d.about(0, max(many-1, 0)))
	}
	if d.oneIn(20) && len(t.Held) > 0 {
		t.Held = slices.Repeat(t.Held, api.MaxCalls+1)[:api.MaxCalls-1+d.below(3)]
	}
	return t
}

func (d *throws) wildWorld() api.World {
	w := api.World{M: d.wildMem()}
	for range min(d.about(1, api.MaxTasks), api.MaxTasks+1) {
		w.Tasks = append(w.Tasks, d.wildTask(w.M))
	}
	return w
}

func (d *throws) wildPick(w api.World) api.Pick {
	return api.Pick{Task: d.about(0, max(len(w.Tasks)-1, 0)), Step: d.oneIn(2), Tick: d.oneIn(10), C: d.wildCall(w.M)}
}

func TestDoInWildWorlds(t *testing.T) {
	d, met := dice(1), map[api.Errno]int{}
	for range 30000 {
		w := d.wildWorld()
		x := d.wildPick(w)
		e := Check(w)
		same(t, "Check", e, wrong(w))
		v, e := Do(w, x)
		u, want := rule(w, x)
		if e != want || tells(v) != tells(u) {
			t.Fatalf("%+v in\n%+v:\n%+v, %d, want\n%+v, %d", x, w, v, e, u, want)
		}
		met[e]++
	}
	for _, e := range []api.Errno{api.OK, api.ErrMany, api.ErrRange, api.ErrForm, api.ErrWho, api.ErrTwice, api.ErrFull, api.ErrLate} {
		if met[e] == 0 {
			t.Errorf("no world with error %d: %v", e, met)
		}
	}
}

func TestRunInWildWorlds(t *testing.T) {
	d := dice(2)
	for range 2000 {
		w := d.wildWorld()
		l := make([]api.Pick, d.below(40))
		for i := range l {
			l[i] = d.wildPick(w)
		}
		v, said, past, e := Run(w, l)
		if want := wrong(w); want != api.OK {
			same(t, "run", []any{v, said, past, e}, []any{api.World{}, []api.Errno(nil), []api.Past(nil), want})
			continue
		}
		u, want := oneByOne(w, l)
		same(t, "run", []any{v, ran{said, past}, e}, []any{u, want, api.OK})
	}
}

// TestAnythingIsTaken: what is nobody's world ends with an error, not otherwise.
func TestAnythingIsTaken(t *testing.T) {
	d := dice(4)
	for range 3000 {
		w := d.wildWorld()
		m := &w.M
		for _, l := range []*[]int{&m.Heads, &m.Free, &m.Locks} {
			if d.oneIn(3) {
				*l = append(*l, farOut()...)
			}
			if d.oneIn(3) {
				*l = nil
			}
		}
		for i := range w.Tasks {
			x, n := &w.Tasks[i], farOut()[d.below(4)]
			x.Held = append(x.Held, n)
			x.F.C = api.Call{Kind: n, K: api.Key{A: n, B: n}, Time: n, Bucket: n, Slot: n}
			x.F.At, x.F.Cur, x.F.Prev, x.F.Slot, x.F.N = n, n, n, n, n
		}
		x := api.Pick{Task: farOut()[d.below(4)], Step: d.oneIn(2), C: d.wildCall(api.Mem{Heads: make([]int, 1)})}
		_, e := Do(w, x)
		_, _, _, f := Run(w, []api.Pick{x, x})
		_, g := Flows(w)
		if c := Check(w); c == api.OK || e != c || f != c || g != c {
			t.Fatalf("%d, %d, %d, %d: %+v", c, e, f, g, w)
		}
	}
	for _, x := range append(somePicks(), api.Pick{}) {
		v, e := Do(api.World{}, x)
		same(t, "no world", []any{v, e}, []any{api.World{}, api.ErrMany})
	}
}

// P2: what is handed in stays, and what is answered is new

// roomy: the sample with spare room behind each list, in which something stands.
func roomy() (api.World, func() string) {
	w := sample()
	var seen []func() string
	m := &w.M
	m.Slots = withRoom(m.Slots, api.Slot{Refs: 77}, &seen)
	for _, l := range []*[]int{&m.Heads, &m.Free, &m.Locks} {
		*l = withRoom(*l, 77, &seen)
	}
	w.Tasks[looker].Held = []int{}
	for i := range w.Tasks {
		t := &w.Tasks[i]
		t.Held = withRoom(t.Held, 77, &seen)
		t.F.Keys = withRoom(t.F.Keys, api.Key{A: 77}, &seen)
	}
	w.Tasks = withRoom(w.Tasks, api.Task{Held: []int{77}}, &seen)
	return w, func() string {
		s := ""
		for _, f := range seen {
			s += f()
		}
		return s
	}
}

// withRoom: l with room for some more behind it; seen tells of all of it.
func withRoom[T any](l []T, x T, seen *[]func() string) []T {
	long := append(slices.Clone(l), x, x, x)
	*seen = append(*seen, func() string { return tells(long) })
	return long[:len(l)]
}

// all that can be picked in the sample, with an error or without.
func allPicks() []api.Pick {
	l := []api.Pick{ticks(), begins(9, listOf(0)), goesOn(-1)}
	for i := range sample().Tasks {
		l = append(l, goesOn(i), begins(i, api.Call{}))
		for _, c := range someCalls() {
			l = append(l, begins(i, c))
		}
	}
	return l
}

func TestDoLeavesWhatIsHandedInAlone(t *testing.T) {
	for _, f := range []api.Frame{frame.New(leaveOf(0)), frame.New(addOf(far, 1)), {C: listOf(1), At: 2, Cur: 1, Keys: []api.Key{near}, Slot: -1}, {C: sweepOf(0), At: 5, Slot: 4}, {C: lookFor(flow), At: 4, Slot: 0}} {
		for _, x := range allPicks() {
			w, seen := roomy()
			ahead := seen()
			_, _ = Do(w, x)
			same(t, tells(x), seen(), ahead)

			f.Keys = withRoom(f.Keys, far, new([]func() string))
			w.Tasks[idle].Busy, w.Tasks[idle].F = true, f
			ahead = seen()
			_, _ = Do(w, x)
			same(t, tells(x), seen(), ahead)
			same(t, "spare room of keys", f.Keys[:len(f.Keys)+1][len(f.Keys)], far)
		}
	}
}

// longScript: calls of all kinds, of all tasks of the sample.
func longScript() []api.Pick {
	l := script(ticks(), goesOn(adder), 7, goesOn(looker), goesOn(9))
	for i := range sample().Tasks {
		for _, c := range append(someCalls(), listOf(0), listOf(1)) {
			l = append(l, script(begins(i, c), goesOn(i), 4)...)
		}
	}
	return l[:min(len(l), api.MaxScript)]
}

func TestRunLeavesWhatIsHandedInAlone(t *testing.T) {
	w, seen := roomy()
	l := withRoom(longScript(), ticks(), new([]func() string))
	ahead, picks := seen(), tells(l[:cap(l)])
	_, said, past, e := Run(w, l)
	same(t, "picks", tells(l[:cap(l)]), picks)
	same(t, "world", seen(), ahead)
	if e != api.OK || len(said) != len(l) || len(past) < 8 {
		t.Fatalf("%d, %v, %v", e, said, past)
	}
}

func TestOthersLeaveWhatIsHandedInAlone(t *testing.T) {
	w, seen := roomy()
	ahead := seen()
	Check(w)
	Flows(w)
	same(t, "world", seen(), ahead)
}

// places: where each thing of some lists lies, spare room and all, and whether it lies in two of them.
type places[T any] struct {
	of    map[*T]string
	twice []string
}

func (p *places[T]) note(what string, l []T) {
	if p.of == nil {
		p.of = map[*T]string{}
	}
	l = l[:cap(l)]
	for i := range l {
		if first, met := p.of[&l[i]]; met {
			p.twice = append(p.twice, first+" and "+what)
		}
		p.of[&l[i]] = what
	}
}

// shared: places of all lists of some worlds and of what is past.
type shared struct {
	ints  places[int]
	keys  places[api.Key]
	slots places[api.Slot]
	tasks places[api.Task]
}

func (s *shared) world(what string, w api.World) {
	s.slots.note(what+" Slots", w.M.Slots)
	s.ints.note(what+" Heads", w.M.Heads)
	s.ints.note(what+" Free", w.M.Free)
	s.ints.note(what+" Locks", w.M.Locks)
	s.tasks.note(what+" Tasks", w.Tasks)
	for _, t := range w.Tasks {
		s.ints.note(what+" Held", t.Held)
		s.keys.note(what+" Keys", t.F.Keys)
	}
}

func (s *shared) none(t *testing.T) {
	t.Helper()
	if l := slices.Concat(s.ints.twice, s.keys.twice, s.slots.twice, s.tasks.twice); len(l) > 0 {
		t.Errorf("lists share memory: %v", l)
	}
}

func TestNewSharesNothing(t *testing.T) {
	var s shared
	for range 3 {
		s.world("New", newWorld(t, 3, 3, 3))
	}
	s.none(t)
}

func TestDoSharesNothing(t *testing.T) {
	for _, x := range allPicks() {
		var s shared
		w, _ := roomy()
		s.world("ahead", w)
		v, _ := Do(w, x)
		s.world("behind", v)
		u, _ := Do(w, x)
		s.world("behind, again", u)
		s.none(t)
	}
}

func TestRunSharesNothing(t *testing.T) {
	l := longScript()
	for _, n := range []int{0, 1, 9, 60, len(l)} {
		var s shared
		w, _ := roomy()
		s.world("ahead", w)
		for range 2 {
			v, _, past, _ := Run(w, l[:n])
			s.world("behind", v)
			for _, p := range past {
				s.keys.note("past", p.Keys)
			}
		}
		s.none(t)
	}
}

// TestListsOfOneRoom: lists of what is handed in may share memory among themselves; those of the answer don't.
func TestListsOfOneRoom(t *testing.T) {
	room, keys := []int{0, 1, 2, 0}, []api.Key{near, flow, far}
	for _, x := range append(allPicks(), goesOn(idle)) {
		w := sample()
		w.M.Slots[0].Refs = 9
		for i := range w.Tasks {
			w.Tasks[i].Held, w.Tasks[i].F.Keys = room[:i], keys[:i%3]
		}
		w.Tasks[fresh].Busy, w.Tasks[fresh].F.C, w.Tasks[fresh].F.Slot = true, leaveOf(0), -1
		w.M.Free, w.M.Locks = []int{5, 3}, room[:2]
		var s shared
		v, _ := Do(w, x)
		s.world("behind", v)
		out, _, past, _ := Run(w, []api.Pick{x, x})
		s.world("out", out)
		for _, p := range past {
			s.keys.note("past", p.Keys)
		}
		s.none(t)
		same(t, "room", []any{room, keys}, []any{[]int{0, 1, 2, 0}, []api.Key{near, flow, far}})
	}
}

// TestNothingIsKept: what is changed in an answer changes no later one.
func TestNothingIsKept(t *testing.T) {
	l := longScript()
	first := tells(fourOf(sample(), l))
	v, said, past, _ := Run(sample(), l)
	for i := range v.M.Slots {
		v.M.Slots[i].Refs = 99
	}
	for i := range said {
		said[i] = api.ErrText
	}
	for i := range past {
		past[i].To = -9
	}
	v.Tasks[idle].Held = append(v.Tasks[idle].Held[:0], 9, 9, 9)
	same(t, "again", tells(fourOf(sample(), l)), first)
}

func fourOf(w api.World, l []api.Pick) []any {
	v, said, past, e := Run(w, l)
	return []any{v, said, past, e}
}
