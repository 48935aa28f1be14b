package look

import (
	"math"
	"reflect"
	"slices"
	"testing"

	"turnstile/api"
	"turnstile/chain"
	"turnstile/frame"
	"turnstile/mem"
)

// Keys of two chains: flow and near are of chain 1, far is of chain 0.
var (
	flow = api.Key{A: 1, B: 2}
	near = api.Key{A: 0, B: 1}
	far  = api.Key{A: 2, B: 0}
)

// sample: chain 1 has slot 1 (near) ahead of slot 0 (flow), chain 0 has slot 2 (far); slot 3 is free, slot 4 is taken, and not linked yet.
func sample() api.Mem {
	return api.Mem{
		Slots: []api.Slot{
			{Refs: 1, K: flow, Until: 5, In: true, Next: -2},
			{Refs: 2, K: near, Until: 6, In: true, Next: 1},
			{Refs: 3, K: far, Until: 7, In: true, Next: -1},
			{K: flow, Until: 8, In: true, Next: 2},
			{Refs: 1, K: flow, Until: 9, Next: 3},
		},
		Heads: []int{3, 2},
		Free:  []int{3},
		Locks: []int{-1, 2},
		Now:   3,
	}
}

// midst: a frame of a Look for flow of which no field is zero, whatever it does next.
func midst(at int) api.Frame {
	return api.Frame{
		C:    api.Call{Kind: api.Look, K: flow, Time: 4, Bucket: 3, Slot: 2},
		At:   at,
		Cur:  1,
		Prev: 3,
		Slot: 2,
		N:    6,
		Keys: []api.Key{{A: 1, B: 2}, {A: 3, B: 4}},
		E:    api.ErrLate,
	}
}

// wholeCopy shares nothing with m.
func wholeCopy(m api.Mem) api.Mem {
	m.Slots, m.Heads = slices.Clone(m.Slots), slices.Clone(m.Heads)
	m.Free, m.Locks = slices.Clone(m.Free), slices.Clone(m.Locks)
	return m
}

// farOut: numbers that no list has a place for.
func farOut() []int { return []int{math.MinInt, math.MinInt + 1, math.MaxInt - 1, math.MaxInt} }

// P5.1: each place

// one: a step from a sample and a frame in the midst of a Look that were changed so (given), and all that it changes (then).
type one struct {
	what  string
	at    int
	given func(m *api.Mem, f *api.Frame)
	then  func(m *api.Mem, f *api.Frame)
}

// next: the place changes, and nothing else.
func next(at int) func(m *api.Mem, f *api.Frame) {
	return func(m *api.Mem, f *api.Frame) { f.At = at }
}

// ends: the Look is done, and nothing else changes.
func ends(e api.Errno) func(m *api.Mem, f *api.Frame) {
	return func(m *api.Mem, f *api.Frame) { f.Done, f.E = true, e }
}

// cur, slot: what the frame stands at, or has in its hands.
func cur(n int) func(m *api.Mem, f *api.Frame) {
	return func(m *api.Mem, f *api.Frame) { f.Cur = n }
}

func slot(a int) func(m *api.Mem, f *api.Frame) {
	return func(m *api.Mem, f *api.Frame) { f.Slot = a }
}

// all does one change after the other.
func all(l ...func(m *api.Mem, f *api.Frame)) func(m *api.Mem, f *api.Frame) {
	return func(m *api.Mem, f *api.Frame) {
		for _, change := range l {
			change(m, f)
		}
	}
}

// refs: how often slot 2 is held.
func refs(n int) func(m *api.Mem, f *api.Frame) {
	return func(m *api.Mem, f *api.Frame) {
		m.Slots[2].Refs = n
		if n == 0 && !slices.Contains(m.Free, 2) {
			m.Free = append(m.Free, 2)
		}
	}
}

// kept: slot 2 is the flow's, until then.
func kept(until int) func(m *api.Mem, f *api.Frame) {
	return func(m *api.Mem, f *api.Frame) { m.Slots[2].K, m.Slots[2].Until = flow, until }
}

func beginSteps() []one {
	return []one{
		{"a slot", 0, all(), all(cur(2), next(1))},
		{"its own end", 0, func(m *api.Mem, f *api.Frame) { m.Heads[1] = -2 }, all(cur(-2), next(1))},
		{"another end", 0, func(m *api.Mem, f *api.Frame) { m.Heads[1] = -1 }, all(cur(-1), next(1))},
		{"the last slot", 0, func(m *api.Mem, f *api.Frame) { m.Heads[1] = 5 }, all(cur(5), next(1))},
		{"of chain 0", 0, func(m *api.Mem, f *api.Frame) { f.C.K = far }, all(cur(3), next(1))},
		{"of one chain", 0, func(m *api.Mem, f *api.Frame) { m.Heads, m.Locks, m.Slots[0].Next = []int{4}, []int{-1}, -1 }, all(cur(4), next(1))},
		{"without a slot in its hands", 0, slot(-1), all(cur(2), next(1))},
	}
}

func sightSteps() []one {
	return []one{
		{"its own end", 1, cur(-2), ends(api.ErrWho)},
		{"another end", 1, cur(-1), next(0)},
		{"its own end, of chain 0", 1, all(cur(-1), func(m *api.Mem, f *api.Frame) { f.C.K = far }), ends(api.ErrWho)},
		{"another end, of chain 0", 1, all(cur(-2), func(m *api.Mem, f *api.Frame) { f.C.K = far }), next(0)},
		{"nothing", 1, cur(0), next(0)},
		{"its key", 1, cur(1), next(3)},
		{"its key, free", 1, cur(4), next(3)},
		{"its key, not In", 1, cur(5), next(3)},
		{"its key, over", 1, all(cur(1), func(m *api.Mem, f *api.Frame) { m.Now = 9 }), next(3)},
		{"another key", 1, cur(2), next(2)},
		{"another chain's key", 1, cur(3), next(2)},
		{"another key, free", 1, all(cur(4), func(m *api.Mem, f *api.Frame) { m.Slots[3].K = near }), next(2)},
		{"its key turned round", 1, all(cur(1), func(m *api.Mem, f *api.Frame) { m.Slots[0].K = api.Key{A: 2, B: 1} }), next(2)},
		{"one end of its key", 1, all(cur(1), func(m *api.Mem, f *api.Frame) { m.Slots[0].K = api.Key{A: 1, B: 3} }), next(2)},
		{"the other end of its key", 1, all(cur(1), func(m *api.Mem, f *api.Frame) { m.Slots[0].K = api.Key{A: 3, B: 2} }), next(2)},
	}
}

func passSteps() []one {
	return []one{
		{"a slot behind", 2, cur(2), all(cur(1), next(1))},
		{"its own end behind", 2, cur(1), all(cur(-2), next(1))},
		{"another end behind", 2, cur(3), all(cur(-1), next(1))},
		{"behind a free one", 2, cur(4), all(cur(2), next(1))},
		{"behind the last one", 2, cur(5), all(cur(3), next(1))},
		{"nothing behind", 2, all(cur(5), func(m *api.Mem, f *api.Frame) { m.Slots[4].Next = 0 }), all(cur(0), next(1))},
		{"itself behind", 2, all(cur(5), func(m *api.Mem, f *api.Frame) { m.Slots[4].Next = 5 }), all(cur(5), next(1))},
	}
}

func holdSteps() []one {
	return []one{
		{"held by one", 3, all(cur(3), refs(1)), all(refs(2), next(4))},
		{"held by some", 3, all(cur(3), refs(3)), all(refs(4), next(4))},
		{"another than was in its hands", 3, all(cur(3), slot(0)), all(slot(2), refs(4), next(4))},
		{"with nothing in its hands", 3, all(cur(3), slot(-1)), all(slot(2), refs(4), next(4))},
		{"one less than MaxRefs", 3, all(cur(3), refs(api.MaxRefs-1)), all(refs(api.MaxRefs), next(4))},
		{"MaxRefs", 3, all(cur(3), slot(-1), refs(api.MaxRefs)), next(0)},
		{"MaxRefs, with a slot in its hands", 3, all(cur(3), slot(0), refs(api.MaxRefs)), next(0)},
		{"free", 3, all(cur(3), slot(-1), refs(0)), next(0)},
		{"free, of its key", 3, all(cur(4), slot(-1)), next(0)},
	}
}

func proofSteps() []one {
	is := func(change func(s *api.Slot)) func(m *api.Mem, f *api.Frame) {
		return func(m *api.Mem, f *api.Frame) { change(&m.Slots[2]) }
	}
	return []one{
		{"lasts", 4, kept(9), ends(api.OK)},
		{"one above Now", 4, kept(4), ends(api.OK)},
		{"as great as Now", 4, kept(3), next(6)},
		{"one below Now", 4, kept(2), next(6)},
		{"Until 0", 4, kept(0), next(6)},
		{"Until and Now 0", 4, all(kept(0), func(m *api.Mem, f *api.Frame) { m.Now = 0 }), next(6)},
		{"the greatest Until", 4, all(kept(2*api.MaxTime), func(m *api.Mem, f *api.Frame) { m.Now = api.MaxTime }), ends(api.OK)},
		{"wherever it stands", 4, all(kept(9), cur(-1)), ends(api.OK)},
		{"the first slot", 4, slot(0), ends(api.OK)},
		{"another key", 4, all(), next(5)},
		{"another key, over", 4, is(func(s *api.Slot) { s.Until = 3 }), next(5)},
		{"its key turned round", 4, is(func(s *api.Slot) { s.K = api.Key{A: 2, B: 1} }), next(5)},
		{"one end of its key", 4, is(func(s *api.Slot) { s.K = api.Key{A: 1, B: 3} }), next(5)},
		{"the other end of its key", 4, is(func(s *api.Slot) { s.K = api.Key{A: 3, B: 2} }), next(5)},
		{"not In", 4, slot(4), next(5)},
		{"not In, over", 4, all(kept(3), is(func(s *api.Slot) { s.In = false })), next(5)},
	}
}

func putSteps() []one {
	var l []one
	for at, then := range map[int]func(m *api.Mem, f *api.Frame){5: next(0), 6: ends(api.ErrWho)} {
		l = append(l,
			one{"held by some", at, refs(3), all(refs(2), slot(-1), then)},
			one{"held by two", at, refs(2), all(refs(1), slot(-1), then)},
			one{"held by most", at, refs(api.MaxRefs), all(refs(api.MaxRefs-1), slot(-1), then)},
			one{"held by it alone", at, refs(1), all(refs(0), slot(-1), then)},
			one{"held by nobody", at, refs(0), all(slot(-1), then)},
			one{"the flow's, and lasts", at, all(kept(9), refs(2)), all(refs(1), slot(-1), then)},
			one{"wherever it stands", at, all(cur(-1), refs(2)), all(refs(1), slot(-1), then)},
		)
	}
	return l
}

// noSteps: what is not to be done.
func noSteps() []one {
	var l []one
	for _, at := range append(farOut(), -1, 7, 8, 9, 10) {
		l = append(l, one{"no such place", at, all(), next(0)}, one{"no such place, no slot", at, slot(-1), next(0)})
	}
	for _, n := range append(farOut(), -3, -2, -1, 0, 6) {
		l = append(l, one{"stands at no slot", 2, cur(n), next(0)}, one{"stands at no slot", 3, cur(n), next(0)})
	}
	for _, a := range append(farOut(), -2, -1, 5) {
		for at := 4; at <= 6; at++ {
			l = append(l, one{"has no slot", at, slot(a), next(0)})
		}
	}
	for _, n := range append(farOut(), -3, 6) {
		l = append(l, one{"stands at what there is not", 1, cur(n), next(0)})
	}
	return l
}

func TestStep(t *testing.T) {
	for _, x := range slices.Concat(beginSteps(), sightSteps(), passSteps(), holdSteps(), proofSteps(), putSteps(), noSteps()) {
		m, f := sample(), midst(x.at)
		x.given(&m, &f)
		wantM, wantF := wholeCopy(m), f
		wantF.Keys = slices.Clone(f.Keys)
		x.then(&wantM, &wantF)
		if got := Step(&m, f); !reflect.DeepEqual(got, wantF) || !mem.Same(m, wantM) {
			t.Errorf("at %d, %s:\n%+v, want\n%+v;\nmemory %+v, want\n%+v", x.at, x.what, got, wantF, m, wantM)
		}
	}
}

// What TestStep asks for, but what noSteps has out of bounds, chapters 2 and 4 take: so it is what is promised.
func TestStepIsAskedForWhatIsTaken(t *testing.T) {
	for _, x := range slices.Concat(beginSteps(), sightSteps(), passSteps(), holdSteps(), proofSteps(), putSteps()) {
		m, f := sample(), midst(x.at)
		x.given(&m, &f)
		if e := mem.Check(m); e != api.OK {
			t.Errorf("at %d, %s: chapter 2 doesn't take %+v: %v", x.at, x.what, m, e)
		}
		if e := frame.Check(m, f); e != api.OK {
			t.Errorf("at %d, %s: chapter 4 doesn't take %+v: %v", x.at, x.what, f, e)
		}
	}
}

// What a slot that is put is freed behind: all those that were free ahead of it.
func TestWhatIsPutIsFreeBehindTheOthers(t *testing.T) {
	for at := 5; at <= 6; at++ {
		m, e := mem.New(4, 2)
		if e != api.OK {
			t.Fatal(e)
		}
		m, a, _ := mem.Taken(m, far, 5)
		f := frame.New(api.Call{Kind: api.Look, K: flow})
		f.At, f.Slot = at, a
		Step(&m, f)
		if !slices.Equal(m.Free, []int{3, 2, 1, 0}) || m.Slots[a].Refs != 0 {
			t.Errorf("at %d: %+v", at, m)
		}
		if _, b, _ := mem.Taken(m, near, 5); b != a {
			t.Errorf("at %d: the slot that was put is not the one that is taken next: %d", at, b)
		}
	}
}

// rule: the chapter's words for memory of two chains, each line of its own;.
func rule(m api.Mem, f api.Frame) (api.Mem, api.Frame) {
	m = wholeCopy(m)
	at := func(places ...int) bool { return slices.Contains(places, f.At) }
	b := map[api.Key]int{flow: 1, near: 1, far: 0}[f.C.K]
	standing := 1 <= f.Cur && f.Cur <= len(m.Slots)
	var here, mine *api.Slot
	if standing {
		here = &m.Slots[f.Cur-1]
	}
	if f.Slot != -1 {
		mine = &m.Slots[f.Slot]
	}
	put := func() {
		if mine.Refs > 0 {
			mine.Refs--
			if mine.Refs == 0 {
				m.Free = append(m.Free, f.Slot)
			}
		}
		f.Slot = -1
	}
	switch {
	case at(7, 8, 9), at(2, 3) && !standing, at(4, 5, 6) && mine == nil:
		f.At = 0
	case at(0):
		f.Cur, f.At = m.Heads[b], 1
	case at(1) && f.Cur == -1-b:
		f.Done, f.E = true, api.ErrWho
	case at(1) && !standing:
		f.At = 0
	case at(1) && here.K == f.C.K:
		f.At = 3
	case at(1):
		f.At = 2
	case at(2):
		f.Cur, f.At = here.Next, 1
	case at(3) && (here.Refs == 0 || here.Refs == 1000):
		f.At = 0
	case at(3):
		here.Refs++
		f.Slot, f.At = f.Cur-1, 4
	case at(4) && (mine.K != f.C.K || !mine.In):
		f.At = 5
	case at(4) && mine.Until <= m.Now:
		f.At = 6
	case at(4):
		f.Done, f.E = true, api.OK
	case at(5):
		put()
		f.At = 0
	case at(6):
		put()
		f.Done, f.E = true, api.ErrWho
	}
	return m, f
}

// frames: all places of a Look in memory of two slots and two chains.
func frames(do func(f api.Frame)) {
	for _, k := range []api.Key{flow, far} {
		for n := range 10 * 5 * 3 {
			f := frame.New(api.Call{Kind: api.Look, K: k})
			f.At, f.Cur, f.Slot = n%10, n/10%5-2, n/50-1
			do(f)
		}
	}
}

// slotsOfAllKinds: what a slot of memory of two slots and two chains, in which Now is 3, can be.
func slotsOfAllKinds(do func(s api.Slot)) {
	for _, k := range []api.Key{flow, near, far} {
		for _, refs := range []int{0, 1, 2, 1000} {
			for n := range 2 * 2 * 5 {
				do(api.Slot{Refs: refs, K: k, Until: 3 + n%2, In: n/2%2 == 0, Next: n/4 - 2})
			}
		}
	}
}

func TestStepOfAllPlacesInSmallMemory(t *testing.T) {
	other := api.Slot{Refs: 1, K: near, Until: 4, In: true, Next: -2}
	slotsOfAllKinds(func(s api.Slot) {
		for _, slots := range [][]api.Slot{{s, other}, {other, s}, {s, s}} {
			m := api.Mem{Slots: slots, Heads: []int{-1, 2}, Locks: []int{-1, 1}, Now: 3}
			for a := range slots {
				if slots[a].Refs == 0 {
					m.Free = append(m.Free, a)
				}
			}
			frames(func(f api.Frame) {
				wantM, wantF := rule(m, f)
				n := wholeCopy(m)
				if got := Step(&n, f); !reflect.DeepEqual(got, wantF) || !mem.Same(n, wantM) {
					t.Fatalf("Step(%+v, %+v):\n%+v, want\n%+v;\nmemory %+v, want\n%+v", m, f, got, wantF, n, wantM)
				}
			})
		}
	})
}

// P5.1: looks that go on

// alone: a Look for k that goes on alone, and at how many steps it is done.
func alone(t *testing.T, m *api.Mem, f api.Frame) (api.Frame, int) {
	t.Helper()
	for n := range 200 {
		if f = Step(m, f); f.Done {
			return f, n + 1
		}
	}
	t.Fatalf("a Look that goes on alone isn't done: %+v in %+v", f, *m)
	return f, 0
}

// linked: memory of so many slots and chains in which these flows are mapped, each ahead of those before.
func linked(t *testing.T, many, buckets, until int, keys ...api.Key) api.Mem {
	t.Helper()
	m, e := mem.New(many, buckets)
	for _, k := range keys {
		var a int
		if e == api.OK {
			m, a, e = mem.Taken(m, k, until)
		}
		if e == api.OK {
			m, e = chain.Linked(m, a)
		}
	}
	if e != api.OK {
		t.Fatal(e)
	}
	return m
}

func newLook(k api.Key) api.Frame { return frame.New(api.Call{Kind: api.Look, K: k}) }

func TestLookThatGoesOnAlone(t *testing.T) {
	for _, x := range []struct {
		what  string
		keys  []api.Key
		now   int
		e     api.Errno
		slot  int
		steps int
	}{
		{"an empty chain", nil, 0, api.ErrWho, -1, 2},
		{"another chain's flow alone", []api.Key{far}, 0, api.ErrWho, -1, 2},
		{"the first one", []api.Key{flow}, 0, api.OK, 0, 4},
		{"the second one", []api.Key{flow, near}, 0, api.OK, 0, 6},
		{"not there", []api.Key{near, far}, 0, api.ErrWho, -1, 4},
		{"the third one", []api.Key{far, flow, near, {A: 3, B: 0}}, 0, api.OK, 1, 8},
		{"about to be over", []api.Key{far, flow}, 4, api.OK, 1, 4},
		{"just over", []api.Key{far, flow}, 5, api.ErrWho, -1, 5},
		{"long over", []api.Key{flow}, api.MaxTime, api.ErrWho, -1, 5},
		{"another one, over", []api.Key{near}, 5, api.ErrWho, -1, 4},
	} {
		m := linked(t, 4, 2, 5, x.keys...)
		m.Now = x.now
		want := wholeCopy(m)
		if x.slot != -1 {
			want.Slots[x.slot].Refs++
		}
		f, steps := alone(t, &m, newLook(flow))
		if f.E != x.e || f.Slot != x.slot || steps != x.steps {
			t.Errorf("%s: %v, slot %d, %d steps; want %v, %d, %d", x.what, f.E, f.Slot, steps, x.e, x.slot, x.steps)
		}
		if !mem.Same(m, want) {
			t.Errorf("%s: memory is %+v, want %+v", x.what, m, want)
		}
	}
}

func TestLookForEachOfAllFlows(t *testing.T) {
	var keys []api.Key
	for a := range api.MaxSlots {
		keys = append(keys, api.Key{A: a, B: 3 * a % 7})
	}
	for buckets := 1; buckets <= api.MaxBuckets; buckets++ {
		m := linked(t, api.MaxSlots, buckets, 1, keys...)
		for a, k := range keys {
			if f, _ := alone(t, &m, newLook(k)); f.E != api.OK || f.Slot != a || m.Slots[a].Refs != 2 {
				t.Errorf("%d chains: a Look for %v: %+v, held %d times", buckets, k, f, m.Slots[a].Refs)
			}
		}
		if f, _ := alone(t, &m, newLook(api.Key{A: 15, B: 15})); f.E != api.ErrWho || f.Slot != -1 {
			t.Errorf("%d chains: a Look for what isn't there: %+v", buckets, f)
		}
	}
}

// Who can't hold a slot since too many do begins anew, and finds it when one of them is gone.
func TestLookForWhatIsHeldByMost(t *testing.T) {
	m := linked(t, 1, 1, 5, flow)
	m.Slots[0].Refs = api.MaxRefs
	f := newLook(flow)
	for range 40 {
		if f = Step(&m, f); f.Done || m.Slots[0].Refs != api.MaxRefs {
			t.Fatalf("a slot that can't be held is: %+v in %+v", f, m)
		}
	}
	m, _ = mem.Let(m, 0)
	if f, _ = alone(t, &m, f); f.E != api.OK || m.Slots[0].Refs != api.MaxRefs {
		t.Errorf("a slot that can be held again isn't: %+v in %+v", f, m)
	}
}

// P5.1, P5.2: looks that are led astray

// tale: memory, a Look in it, and what others do between its steps.
type tale struct {
	t *testing.T
	m api.Mem
	f api.Frame
}

func (x *tale) steps(n int) {
	for range n {
		x.f = Step(&x.m, x.f)
	}
}

func (x *tale) is(what string, at, cur, slot int) {
	x.t.Helper()
	if x.f.Done || x.f.At != at || x.f.Cur != cur || x.f.Slot != slot {
		x.t.Fatalf("%s: %+v, want at %d, Cur %d, Slot %d", what, x.f, at, cur, slot)
	}
}

func (x *tale) ends(what string, e api.Errno, slot int) {
	x.t.Helper()
	if x.f, _ = alone(x.t, &x.m, x.f); x.f.E != e || x.f.Slot != slot {
		x.t.Fatalf("%s: %+v, want %v, Slot %d", what, x.f, e, slot)
	}
}

func (x *tale) ok(e api.Errno) {
	x.t.Helper()
	if e != api.OK {
		x.t.Fatal(e)
	}
}

// drops: the flow of k is cut out, and its slot is put.
func (x *tale) drops(k api.Key) {
	x.t.Helper()
	m, a, e := chain.Without(x.m, k)
	x.ok(e)
	x.m, e = mem.Let(m, a)
	x.ok(e)
}

func (x *tale) takes(k api.Key) int {
	x.t.Helper()
	m, a, e := mem.Taken(x.m, k, 9)
	x.ok(e)
	x.m = m
	return a
}

func (x *tale) adds(k api.Key) int {
	x.t.Helper()
	a := x.takes(k)
	m, e := chain.Linked(x.m, a)
	x.ok(e)
	x.m = m
	return a
}

func told(t *testing.T, k api.Key, keys ...api.Key) *tale {
	return &tale{t, linked(t, len(keys), 2, 9, keys...), newLook(k)}
}

func TestLedIntoAnotherChain(t *testing.T) {
	x := told(t, flow, flow, near)
	x.steps(2)
	x.is("at another flow", 2, 2, -1)
	x.drops(near)
	x.adds(far)
	x.steps(1)
	x.is("behind it", 1, -1, -1)
	x.steps(1)
	x.is("at another chain's end", 0, -1, -1)
	x.ends("from the begin on", api.OK, 0)
}

func TestLedIntoAnotherChainWithoutTheFlow(t *testing.T) {
	x := told(t, flow, api.Key{A: 3, B: 0}, near)
	x.steps(2)
	x.drops(near)
	x.adds(far)
	x.steps(2)
	x.is("at another chain's end", 0, -1, -1)
	x.ends("from the begin on", api.ErrWho, -1)
}

// A slot that was cut out still leads to what stood behind it.
func TestFromWhatWasCutOut(t *testing.T) {
	x := told(t, flow, flow, near)
	x.steps(2)
	x.drops(near)
	x.ends("free", api.OK, 0)
	x = told(t, flow, flow, near)
	x.steps(2)
	x.drops(near)
	x.takes(far)
	x.ends("taken, and not linked yet", api.OK, 0)
	x = told(t, flow, flow, near)
	x.steps(2)
	x.drops(near)
	x.adds(near)
	x.ends("linked again", api.OK, 0)
}

func TestSlotOfTheKeyThatIsNotTheFlowAnyMore(t *testing.T) {
	x := told(t, flow, flow)
	x.steps(2)
	x.is("at the flow", 3, 1, -1)
	x.drops(flow)
	x.steps(1)
	x.is("free: it can't be held", 0, 1, -1)
	x.ends("from the begin on", api.ErrWho, -1)

	x = told(t, flow, flow)
	x.steps(2)
	x.drops(flow)
	x.adds(far)
	x.steps(1)
	x.is("another flow's: it is held", 4, 1, 0)
	x.steps(1)
	x.is("and asked again", 5, 1, 0)
	x.steps(1)
	x.is("and put", 0, 1, -1)
	if x.m.Slots[0].Refs != 1 {
		t.Errorf("held by %d, want 1", x.m.Slots[0].Refs)
	}
	x.ends("from the begin on", api.ErrWho, -1)

	x = told(t, flow, flow)
	x.steps(2)
	x.drops(flow)
	x.takes(flow)
	x.steps(2)
	x.is("of the key, and not linked yet", 5, 1, 0)

	x = told(t, flow, flow)
	x.steps(2)
	x.drops(flow)
	x.adds(flow)
	x.ends("of the key, linked again", api.OK, 0)
}

// Who holds a slot keeps it from being taken, and is the one who frees it.
func TestHeldSlotIsNotTaken(t *testing.T) {
	x := told(t, flow, flow)
	x.steps(3)
	x.is("held", 4, 1, 0)
	x.drops(flow)
	if _, _, e := mem.Taken(x.m, far, 9); e != api.ErrFull {
		t.Errorf("a slot that is held is taken: %v", e)
	}
	x.ends("found, since it was mapped while it was looked for", api.OK, 0)
	if x.m.Slots[0].Refs != 1 || len(x.m.Free) != 0 {
		t.Errorf("found, and not held: %+v", x.m)
	}

	x = told(t, flow, flow)
	x.steps(3)
	x.drops(flow)
	x.m.Now = 9
	x.ends("over", api.ErrWho, -1)
	if !slices.Equal(x.m.Free, []int{0}) || x.m.Slots[0].Refs != 0 {
		t.Errorf("over, dropped, put, and not free: %+v", x.m)
	}

	// Held too late: the slot is another flow's by then, and that one is dropped, too.
	x = told(t, flow, flow)
	x.steps(2)
	x.drops(flow)
	x.adds(far)
	x.steps(1)
	x.drops(far)
	x.steps(2)
	x.is("put", 0, 1, -1)
	if !slices.Equal(x.m.Free, []int{0}) || x.m.Slots[0].Refs != 0 {
		t.Errorf("dropped, put, and not free: %+v", x.m)
	}
}

// P5.2: each way in which a Look and what others do can follow each other

// What somebody else has to do yet with a slot that they took.
const (
	nothing = iota
	link    // or put it, if the key is there
	cut
	put
)

// moment of a small world: memory, what is to be done yet with each slot, how much others may do yet, a Look, and what was so while it went on.
type moment struct {
	m     api.Mem
	todo  [3]int
	left  int
	f     api.Frame
	looks bool
	gone  bool    // flow was not mapped, or over
	there [3]bool // flow was mapped to that slot, and not over
}

// id: all that a moment is, as a value that can be compared.
type id struct {
	slots         [3]api.Slot
	heads         [2]int
	free          [3]int
	now           int
	todo          [3]int
	left          int
	at, cur, slot int
	done          bool
	e             api.Errno
	looks, gone   bool
	there         [3]bool
}

func (x moment) id() id {
	y := id{now: x.m.Now, todo: x.todo, left: x.left, at: x.f.At, cur: x.f.Cur, slot: x.f.Slot, done: x.f.Done, e: x.f.E, looks: x.looks, gone: x.gone, there: x.there}
	copy(y.slots[:], x.m.Slots)
	copy(y.heads[:], x.m.Heads)
	for i, a := range x.m.Free {
		y.free[i] = a + 1
	}
	return y
}

// sees notes how it stands with flow at this moment.
func (x *moment) sees(t *testing.T) {
	l, e := chain.Flows(x.m)
	if e != api.OK {
		t.Fatalf("chains are not right: %v in %+v", e, x.m)
	}
	for _, y := range l {
		if y.K == flow && y.Until > x.m.Now {
			x.there[y.Slot] = true
			return
		}
	}
	x.gone = true
}

// others: what those who take, link, cut out and put can do next, a thing at a time; and time.
func (x moment) others() []moment {
	if x.left == 0 {
		return nil
	}
	x.left--
	var l []moment
	with := func(m api.Mem, e api.Errno, a, todo int) {
		if e == api.OK {
			y := x
			y.m, y.todo[a] = m, todo
			l = append(l, y)
		}
	}
	for _, k := range []api.Key{flow, near, far} {
		m, a, e := mem.Taken(x.m, k, x.m.Now+1)
		with(m, e, a, link)
		m, a, e = chain.Without(x.m, k)
		with(m, e, a, put)
	}
	for a := range x.m.Slots {
		if x.todo[a] == link {
			m, e := chain.Linked(x.m, a)
			with(m, e, a, cut)
		}
		if x.todo[a] == link || x.todo[a] == put {
			m, e := mem.Let(x.m, a)
			with(m, e, a, nothing)
		}
	}
	if x.m.Now < 1 {
		y := x
		y.m = wholeCopy(x.m)
		y.m.Now++
		l = append(l, y)
	}
	return l
}

// goesOn: the Look begins, or does a step.
func (x moment) goesOn() moment {
	if !x.looks {
		x.f, x.looks, x.gone, x.there = newLook(flow), true, false, [3]bool{}
		return x
	}
	x.m = wholeCopy(x.m)
	x.f = Step(&x.m, x.f)
	return x
}

// holds tells whether what the Look was done with was so at some moment while it went on.
func (x moment) holds() bool {
	if x.f.E == api.OK {
		s := x.m.Slots[x.f.Slot]
		return x.there[x.f.Slot] && s.Refs > 0 && s.K == flow
	}
	return x.f.E == api.ErrWho && x.gone && x.f.Slot == -1
}

// comesToAnEnd: wherever the Look was led, it is done when nobody disturbs it any more.
func (x moment) comesToAnEnd(t *testing.T) {
	if x.looks {
		m := wholeCopy(x.m)
		alone(t, &m, x.f)
	}
}

// explore goes through all that can follow a moment, and counts the ways in which a Look ends.
func explore(t *testing.T, first moment) (found, missed int) {
	seen := map[id]int{}
	work := []moment{first}
	for len(work) > 0 {
		x := work[len(work)-1]
		work = work[:len(work)-1]
		if x.looks {
			x.sees(t)
		}
		if seen[x.id()]++; seen[x.id()] > 1 {
			continue
		}
		switch {
		case !x.f.Done:
			x.comesToAnEnd(t)
			work = append(append(work, x.others()...), x.goesOn())
		case !x.holds():
			t.Fatalf("what never was so: %+v", x)
		case x.f.E == api.OK:
			found++
		default:
			missed++
		}
	}
	return found, missed
}

func TestWhatALookTellsWasSo(t *testing.T) {
	for _, x := range []struct {
		many, left int
		keys       []api.Key
	}{
		{1, 12, nil},
		{2, 9, nil},
		{2, 8, []api.Key{flow, near}},
		{3, 7, []api.Key{flow, near}},
		{3, 7, []api.Key{flow, near, {A: 3, B: 0}}},
		{3, 7, []api.Key{near, flow}},
		{3, 7, []api.Key{flow, near, far}},
	} {
		first := moment{m: linked(t, x.many, 2, 1, x.keys...), left: x.left}
		for a := range x.keys {
			first.todo[a] = cut
		}
		found, missed := explore(t, first)
		if found == 0 || missed == 0 {
			t.Errorf("%+v: found %d times, missed %d times", x, found, missed)
		}
	}
}

// P1, P2 of DOC.md

// wild: memory as it may not be, of so many slots and chains, in which this number stands wherever one can.
func wild(many, buckets, n int) api.Mem {
	m := api.Mem{Free: []int{n, n}, Locks: []int{n}, Now: n}
	for range many {
		m.Slots = append(m.Slots, api.Slot{Refs: n, K: api.Key{A: n, B: n}, Until: n, In: n > 0, Next: n})
	}
	for range buckets {
		m.Heads = append(m.Heads, n)
	}
	return m
}

// wildFrames: frames of all kinds and places, whatever they stand at.
func wildFrames(do func(f api.Frame)) {
	numbers := append(farOut(), -3, -1, 0, 1, 3, 7)
	for _, kind := range []int{api.Look, api.Sweep, 0, math.MinInt} {
		for _, at := range append(farOut(), -1, 0, 1, 2, 3, 4, 5, 6, 7, 9, 10) {
			for _, n := range numbers {
				for _, a := range numbers {
					do(api.Frame{C: api.Call{Kind: kind, K: api.Key{A: a, B: n}, Bucket: a}, At: at, Cur: n, Prev: a, Slot: a, N: n})
				}
			}
		}
	}
}

func TestStepTakesAnything(t *testing.T) {
	var l []api.Mem
	for _, n := range append(farOut(), -1, 0, 1, 1000) {
		l = append(l, api.Mem{}, wild(0, 2, n), wild(3, 0, n), wild(3, 2, n), wild(40, 30, n))
	}
	wildFrames(func(f api.Frame) {
		for _, m := range l {
			one, two := wholeCopy(m), wholeCopy(m)
			f1, f2 := Step(&one, f), Step(&two, f)
			if !reflect.DeepEqual(f1, f2) || !mem.Same(one, two) {
				t.Fatalf("Step(%+v, %+v) twice: %+v, then %+v", m, f, f1, f2)
			}
			if len(one.Slots) != len(m.Slots) || !slices.Equal(one.Heads, m.Heads) || !slices.Equal(one.Locks, m.Locks) || one.Now != m.Now {
				t.Fatalf("Step(%+v, %+v) changes what is none of its: %+v", m, f, one)
			}
		}
	})
}

func TestStepWithoutMemory(t *testing.T) {
	wildFrames(func(f api.Frame) {
		if got := Step(nil, f); !reflect.DeepEqual(got, f) {
			t.Fatalf("Step(nil, %+v): %+v", f, got)
		}
	})
}

// Where there is no such chain, a Look stays where it is.
func TestStepWithoutChains(t *testing.T) {
	for _, c := range []api.Call{{Kind: api.Look, K: flow}, {Kind: api.Sweep, Bucket: 2}, {Kind: api.List, Bucket: -1}} {
		m := sample()
		if c.Kind == api.Look {
			m.Heads = nil
		}
		want, f := wholeCopy(m), frame.New(c)
		if got := Step(&m, f); !reflect.DeepEqual(got, f) || !mem.Same(m, want) {
			t.Errorf("Step(%+v, %+v): %+v", want, f, got)
		}
	}
}

// A call that is done is done: no step of it follows.
func TestStepOfWhatIsDone(t *testing.T) {
	for at := range 10 {
		m, f := sample(), midst(at)
		f.Done = true
		if got := Step(&m, f); !reflect.DeepEqual(got, f) || !mem.Same(m, sample()) {
			t.Errorf("done at %d: %+v, %+v", at, got, m)
		}
	}
}

// A frame of another Kind goes on in its own chain, as chapter 4's Bucket tells it.
func TestStepGoesByBucket(t *testing.T) {
	for _, kind := range []int{api.Sweep, api.List} {
		for b, begin := range sample().Heads {
			m := sample()
			f := Step(&m, frame.New(api.Call{Kind: kind, K: flow, Bucket: b}))
			if f.Cur != begin || f.At != 1 {
				t.Errorf("Kind %d, Bucket %d: %+v", kind, b, f)
			}
			f.Cur = -1 - b
			if f = Step(&m, f); !f.Done || f.E != api.ErrWho {
				t.Errorf("Kind %d, Bucket %d, at its end: %+v", kind, b, f)
			}
		}
	}
}

// All that stands behind a list is somebody else's: a step doesn't write there, though it changes what is in the list.
func TestStepLeavesSpareRoomAlone(t *testing.T) {
	for at := range 10 {
		for _, n := range []int{0, 1, 2, 3} {
			slots, numbers := sample().Slots, []int{3, 2, 77, 3, 88, 88, -1, 2, 99}
			keys := []api.Key{{A: 1, B: 2}, {A: 3, B: 4}, {A: 5, B: 6}}
			m := api.Mem{Slots: slots[:4], Heads: numbers[:2], Free: numbers[3:4], Locks: numbers[6:8], Now: 3}
			m.Slots[n].Refs = 1
			f := midst(at)
			f.Cur, f.Slot, f.Keys = n+1, n, keys[:2]
			Step(&m, f)
			if !slices.Equal(numbers, []int{3, 2, 77, 3, 88, 88, -1, 2, 99}) || slots[4] != sample().Slots[4] {
				t.Errorf("at %d: room that is not the memory's is changed: %v, %v", at, numbers, slots)
			}
			if !slices.Equal(keys, []api.Key{{A: 1, B: 2}, {A: 3, B: 4}, {A: 5, B: 6}}) {
				t.Errorf("at %d: keys that were handed in are changed: %v", at, keys)
			}
		}
	}
}

// What one Step was given is not seen by the next one.
func TestStepKeepsNothing(t *testing.T) {
	for at := range 10 {
		m, n := sample(), sample()
		first := Step(&m, midst(at))
		other := wild(3, 2, -1)
		Step(&other, midst(9-at))
		m.Slots[0], m.Heads[1], m.Free = api.Slot{}, -1, nil
		if second := Step(&n, midst(at)); !reflect.DeepEqual(first, second) {
			t.Errorf("at %d: %+v, then %+v", at, first, second)
		}
	}
}
