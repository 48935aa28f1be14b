package drop

import (
	"math"
	"reflect"
	"slices"
	"testing"

	"turnstile/api"
	"turnstile/chain"
	"turnstile/frame"
	"turnstile/mem"
)

// Keys of two chains: flow, near and side are of chain 1, far is of chain 0.
var (
	flow = api.Key{A: 1, B: 2}
	near = api.Key{A: 0, B: 1}
	side = api.Key{A: 3, B: 0}
	far  = api.Key{A: 2, B: 0}
)

// me: the task whose Drop it is.
const me = 2

// sample: chain 1 has slot 1 (near), slot 0 (flow) and slot 4 (side), chain 0 has slot 2 (far); 5 and 3 are free, slot 6 was cut out, and is held yet; the lock of chain 1 is mine, that of chain 0 another one's.
func sample() api.Mem {
	return api.Mem{
		Slots: []api.Slot{
			{Refs: 1, K: flow, Until: 5, In: true, Next: 5},
			{Refs: 2, K: near, Until: 6, In: true, Next: 1},
			{Refs: 3, K: far, Until: 7, In: true, Next: -1},
			{K: far, Until: 8, In: true, Next: 2},
			{Refs: 1, K: side, Until: 9, In: true, Next: -2},
			{K: side, Until: 10, Next: 4},
			{Refs: 1, K: flow, Until: 11, In: true, Next: 5},
		},
		Heads: []int{3, 2},
		Free:  []int{5, 3},
		Locks: []int{3, me},
		Now:   3,
	}
}

// midst: a frame of a Drop of flow of which no field is zero, whatever it does next; it stands at flow's slot, near's being ahead.
func midst(at int) api.Frame {
	return api.Frame{
		C:    api.Call{Kind: api.Drop, K: flow, Time: 8, Bucket: 3, Slot: 2},
		At:   at,
		Cur:  1,
		Prev: 2,
		Slot: 6,
		N:    6,
		Keys: []api.Key{{A: 1, B: 2}, {A: 3, B: 4}},
		E:    api.ErrText,
	}
}

// wholeCopy shares nothing with m.
func wholeCopy(m api.Mem) api.Mem {
	m.Slots, m.Heads = slices.Clone(m.Slots), slices.Clone(m.Heads)
	m.Free, m.Locks = slices.Clone(m.Free), slices.Clone(m.Locks)
	return m
}

// farOut: numbers that no list has a place for.
func farOut() []int { return []int{math.MinInt, math.MinInt + 1, math.MaxInt - 1, math.MaxInt} }

// P7.1: each place

// change of memory and a frame.
type change func(m *api.Mem, f *api.Frame)

// one: a step from a sample and a frame in the midst of a Drop that were changed so (given), and all that it changes (then).
type one struct {
	what  string
	at    int
	given change
	then  change
}

// all does one change after the other.
func all(l ...change) change {
	return func(m *api.Mem, f *api.Frame) {
		for _, c := range l {
			c(m, f)
		}
	}
}

func next(at int) change   { return func(m *api.Mem, f *api.Frame) { f.At = at } }
func cur(n int) change     { return func(m *api.Mem, f *api.Frame) { f.Cur = n } }
func prev(n int) change    { return func(m *api.Mem, f *api.Frame) { f.Prev = n } }
func slot(a int) change    { return func(m *api.Mem, f *api.Frame) { f.Slot = a } }
func of(k api.Key) change  { return func(m *api.Mem, f *api.Frame) { f.C.K = k } }
func e(e api.Errno) change { return func(m *api.Mem, f *api.Frame) { f.E = e } }
func done() change         { return func(m *api.Mem, f *api.Frame) { f.Done = true } }

func lockOf(b, task int) change { return func(m *api.Mem, f *api.Frame) { m.Locks[b] = task } }
func headOf(b, n int) change    { return func(m *api.Mem, f *api.Frame) { m.Heads[b] = n } }
func now(n int) change          { return func(m *api.Mem, f *api.Frame) { m.Now = n } }
func free(l ...int) change      { return func(m *api.Mem, f *api.Frame) { m.Free = l } }

// is: a slot is otherwise.
func is(a int, how func(s *api.Slot)) change {
	return func(m *api.Mem, f *api.Frame) { how(&m.Slots[a]) }
}

func refs(a, n int) change   { return is(a, func(s *api.Slot) { s.Refs = n }) }
func behind(a, n int) change { return is(a, func(s *api.Slot) { s.Next = n }) }

// oneChain: all is in one chain, of which the lock is mine.
func oneChain(m *api.Mem, f *api.Frame) {
	m.Heads, m.Locks, m.Slots[4].Next = []int{2}, []int{me}, -1
}

// isLate: nothing else is done.
func isLate() change { return all(e(api.ErrLate), next(5)) }

func lockSteps() []one {
	return []one{
		{"nobody has it", 0, lockOf(1, -1), all(lockOf(1, me), next(1))},
		{"nobody has any", 0, all(lockOf(0, -1), lockOf(1, -1)), all(lockOf(1, me), next(1))},
		{"the task has another chain's", 0, all(lockOf(0, me), lockOf(1, -1)), all(lockOf(1, me), next(1))},
		{"nobody has it, of chain 0", 0, all(of(far), lockOf(0, -1)), all(lockOf(0, me), next(1))},
		{"nobody has it, nothing in its hands", 0, all(lockOf(1, -1), slot(-1)), all(lockOf(1, me), next(1))},
		{"the task has it", 0, all(), all()},
		{"the first task has it", 0, lockOf(1, 0), all()},
		{"another one has it", 0, lockOf(1, 1), all()},
		{"the last one has it", 0, lockOf(1, api.MaxTasks-1), all()},
		{"another one has it, nobody the other one", 0, all(lockOf(0, -1), lockOf(1, 1)), all()},
		{"another one has it, of chain 0", 0, all(of(far), lockOf(1, -1)), all()},
	}
}

func beginSteps() []one {
	return []one{
		{"a slot", 1, cur(0), all(prev(0), cur(2), next(2))},
		{"a slot, from the begin on", 1, all(prev(0), cur(0)), all(cur(2), next(2))},
		{"its own end", 1, headOf(1, -2), all(prev(0), cur(-2), next(2))},
		{"another end", 1, headOf(1, -1), all(prev(0), cur(-1), next(2))},
		{"the last slot", 1, headOf(1, 7), all(prev(0), cur(7), next(2))},
		{"of chain 0", 1, of(far), all(prev(0), cur(3), next(2))},
		{"the own end of chain 0", 1, all(of(far), headOf(0, -1)), all(prev(0), cur(-1), next(2))},
		{"without the lock", 1, lockOf(1, -1), all(prev(0), cur(2), next(2))},
		{"with nothing in its hands", 1, slot(-1), all(prev(0), cur(2), next(2))},
	}
}

func sightSteps() []one {
	key := func(k api.Key) change { return is(0, func(s *api.Slot) { s.K = k }) }
	none := all(e(api.ErrWho), next(5))
	return []one{
		{"its own end", 2, cur(-2), none},
		{"another end", 2, cur(-1), none},
		{"nothing", 2, cur(0), none},
		{"its own end, nothing in its hands", 2, all(cur(-2), slot(-1)), none},
		{"its own end, of an empty chain", 2, all(cur(-2), prev(0)), none},
		{"its own end, without the lock", 2, all(cur(-2), lockOf(1, 4)), none},
		{"its key", 2, all(), next(4)},
		{"its key, at the begin", 2, prev(0), next(4)},
		{"its key, over", 2, now(9), next(4)},
		{"its key, in no chain", 2, cur(7), next(4)},
		{"its key, not In", 2, is(0, func(s *api.Slot) { s.In = false }), next(4)},
		{"its key, free", 2, all(cur(4), is(3, func(s *api.Slot) { s.K = flow })), next(4)},
		{"its key, of chain 0", 2, all(of(far), cur(3)), next(4)},
		{"another key", 2, cur(2), next(3)},
		{"another key, the last one", 2, cur(5), next(3)},
		{"another chain's key", 2, cur(3), next(3)},
		{"another key, free", 2, cur(4), next(3)},
		{"its key turned round", 2, key(api.Key{A: 2, B: 1}), next(3)},
		{"one end of its key", 2, key(api.Key{A: 1, B: 3}), next(3)},
		{"the other end of its key", 2, key(api.Key{A: 3, B: 2}), next(3)},
	}
}

func passSteps() []one {
	return []one{
		{"a slot behind", 3, all(cur(2), prev(0)), all(prev(2), cur(1), next(2))},
		{"another slot behind", 3, all(), all(prev(1), cur(5), next(2))},
		{"its own end behind", 3, all(cur(5), prev(1)), all(prev(5), cur(-2), next(2))},
		{"another end behind", 3, cur(3), all(prev(3), cur(-1), next(2))},
		{"behind a free one", 3, cur(4), all(prev(4), cur(2), next(2))},
		{"behind the last one", 3, cur(7), all(prev(7), cur(5), next(2))},
		{"nothing behind", 3, behind(0, 0), all(prev(1), cur(0), next(2))},
		{"itself behind", 3, behind(0, 1), all(prev(1), cur(1), next(2))},
		{"without the lock", 3, lockOf(1, -1), all(prev(1), cur(5), next(2))},
	}
}

func cutSteps() []one {
	then := func(a int) change { return all(slot(a), e(api.OK), next(5)) }
	return []one{
		{"behind another one, ahead of another", 4, all(), all(behind(1, 5), then(0))},
		{"behind another one, the last one", 4, all(cur(5), prev(1)), all(behind(0, -2), then(4))},
		{"at the begin, ahead of another", 4, all(cur(2), prev(0)), all(headOf(1, 1), then(1))},
		{"at the begin, the only one", 4, all(headOf(1, 5), cur(5), prev(0)), all(headOf(1, -2), then(4))},
		{"at the begin of chain 0, the only one", 4, all(of(far), cur(3), prev(0)), all(headOf(0, -1), then(2))},
		{"at the begin of chain 0, ahead of another", 4, all(of(far), cur(3), prev(0), behind(2, 7)), all(headOf(0, 7), then(2))},
		{"at the begin of one chain of one", 4, all(oneChain, cur(2), prev(0)), all(headOf(0, 1), then(1))},
		{"behind another one of one chain of one", 4, oneChain, all(behind(1, 5), then(0))},
		{"nothing in its hands", 4, slot(-1), all(behind(1, 5), then(0))},
		{"held by more than one", 4, refs(0, 4), all(behind(1, 5), then(0))},
		{"over", 4, now(9), all(behind(1, 5), then(0))},
		{"without the lock", 4, lockOf(1, 4), all(behind(1, 5), then(0))},
		{"another key", 4, of(near), all(behind(1, 5), then(0))},
		{"what is free", 4, all(cur(4), prev(0)), all(headOf(1, 2), then(3))},
		{"nothing behind", 4, behind(0, 0), all(behind(1, 0), then(0))},
		{"what is not ahead of it", 4, all(cur(5), prev(7)), all(behind(6, -2), then(4))},
		{"not ahead of it, but the begin", 4, prev(0), all(headOf(1, 5), then(0))},
		{"itself ahead", 4, prev(1), then(0)},
	}
}

func unlockSteps() []one {
	l := []one{
		{"another one's stays", 5, lockOf(1, 1), next(6)},
		{"the first task's stays", 5, lockOf(1, 0), next(6)},
		{"nobody's stays", 5, lockOf(1, -1), next(6)},
		{"its own of another chain stays", 5, all(lockOf(0, me), lockOf(1, 4)), next(6)},
		{"its own of two chains", 5, lockOf(0, me), all(lockOf(1, -1), next(6))},
		{"its own of chain 0", 5, all(of(far), lockOf(0, me)), all(lockOf(0, -1), next(6))},
		{"another one's of chain 0 stays", 5, of(far), next(6)},
		{"nothing in its hands", 5, slot(-1), all(lockOf(1, -1), next(6))},
	}
	for x := api.OK; x <= api.ErrLate; x++ {
		l = append(l, one{"E is as it is", 5, e(x), all(lockOf(1, -1), next(6))})
	}
	return l
}

func putSteps() []one {
	then := all(slot(-1), done())
	l := []one{
		{"none", 6, slot(-1), then},
		{"held once", 6, all(), all(refs(6, 0), free(5, 3, 6), then)},
		{"held once, the only one that is free then", 6, all(free(), refs(3, 1), refs(5, 1)), all(refs(6, 0), free(6), then)},
		{"held twice", 6, refs(6, 2), all(refs(6, 1), then)},
		{"held by some", 6, slot(2), all(refs(2, 2), then)},
		{"held by most", 6, refs(6, api.MaxRefs), all(refs(6, api.MaxRefs-1), then)},
		{"held by nobody", 6, slot(3), then},
		{"the first slot", 6, slot(0), all(refs(0, 0), free(5, 3, 0), then)},
		{"wherever it stands", 6, all(cur(-1), prev(0), refs(6, 2)), all(refs(6, 1), then)},
		{"the lock being another one's", 6, all(lockOf(1, 4), refs(6, 2)), all(refs(6, 1), then)},
		{"the lock being nobody's", 6, all(lockOf(1, -1), refs(6, 2)), all(refs(6, 1), then)},
	}
	for x := api.OK; x <= api.ErrLate; x++ {
		l = append(l, one{"E is as it is", 6, e(x), all(refs(6, 0), free(5, 3, 6), then)}, one{"E is as it is, none", 6, all(e(x), slot(-1)), then})
	}
	return l
}

// takenSteps: steps of which chapters 2 and 4 take the memory and the frame.
func takenSteps() []one {
	l := slices.Concat(lockSteps(), beginSteps(), sightSteps(), passSteps(), cutSteps(), unlockSteps(), putSteps())
	for at := 3; at <= 4; at++ {
		for _, n := range []int{-2, -1, 0} {
			l = append(l, one{"stands at no slot", at, cur(n), isLate()}, one{"stands at no slot, nor has one, nor the lock", at, all(cur(n), prev(0), slot(-1), lockOf(1, 4)), isLate()})
		}
	}
	for at := 7; at <= 9; at++ {
		l = append(l, one{"no such place", at, all(), isLate()}, one{"no such place, no slot", at, all(cur(-2), slot(-1)), isLate()})
	}
	return l
}

// noSteps: what is out of bounds.
func noSteps() []one {
	var l []one
	for _, at := range append(farOut(), -2, -1, 10, 11) {
		l = append(l, one{"no such place", at, all(), isLate()})
	}
	for _, n := range append(farOut(), -3, 8) {
		l = append(l, one{"stands at what there is not", 2, cur(n), all(e(api.ErrWho), next(5))})
		l = append(l, one{"stands at no slot", 3, cur(n), isLate()}, one{"stands at no slot", 4, cur(n), isLate()})
	}
	for _, n := range append(farOut(), -2, -1, 8) {
		l = append(l, one{"what there is not is ahead", 4, prev(n), isLate()})
	}
	for _, a := range append(farOut(), -2, 7) {
		l = append(l, one{"has what there is not", 6, slot(a), all(slot(-1), done())})
	}
	return l
}

func TestStep(t *testing.T) {
	for _, x := range slices.Concat(takenSteps(), noSteps()) {
		m, f := sample(), midst(x.at)
		x.given(&m, &f)
		wantM, wantF := wholeCopy(m), f
		wantF.Keys = slices.Clone(f.Keys)
		x.then(&wantM, &wantF)
		if got := Step(&m, f, me); !reflect.DeepEqual(got, wantF) || !mem.Same(m, wantM) {
			t.Errorf("at %d, %s:\n%+v, want\n%+v;\nmemory %+v, want\n%+v", x.at, x.what, got, wantF, m, wantM)
		}
	}
}

// What takenSteps has is what is promised: chapters 2 and 4 take it.
func TestStepIsAskedForWhatIsTaken(t *testing.T) {
	for _, x := range takenSteps() {
		m, f := sample(), midst(x.at)
		x.given(&m, &f)
		if e := mem.Check(m); e != api.OK {
			t.Errorf("at %d, %s: chapter 2 doesn't take %+v: %v", x.at, x.what, m, e)
		}
		if e := frame.Check(m, f); e != api.OK {
			t.Errorf("at %d, %s: chapter 4 doesn't take %+v: %v", x.at, x.what, f, e)
		}
	}
}

// Each task can have the lock, and gives back none but its own.
func TestStepOfEachTask(t *testing.T) {
	for task := range api.MaxTasks {
		for had := -1; had < api.MaxTasks; had++ {
			m, want := sample(), sample()
			m.Locks[1], want.Locks[1] = had, had
			at := 0
			if had == -1 {
				want.Locks[1], at = task, 1
			}
			if f := Step(&m, midst(0), task); f.At != at || !mem.Same(m, want) {
				t.Errorf("task %d, a lock of %d: at %d, %+v, want %d, %+v", task, had, f.At, m.Locks, at, want.Locks)
			}
			m.Locks[1], want.Locks[1] = had, had
			if had == task {
				want.Locks[1] = -1
			}
			if f := Step(&m, midst(5), task); f.At != 6 || f.Done || !mem.Same(m, want) {
				t.Errorf("task %d gives back a lock of %d: %+v, want %+v", task, had, m.Locks, want.Locks)
			}
		}
	}
}

// The chain of each key is its own, of as many chains as there can be.
func TestStepInEachChain(t *testing.T) {
	keys := []api.Key{{A: 4, B: 0}, {A: 0, B: 3}, {A: 2, B: 0}, {A: 1, B: 0}}
	for b, k := range keys {
		m := mapping(t, 5, api.MaxBuckets, 1, keys...)
		want := wholeCopy(m)
		f := Step(&m, newDrop(k), me)
		want.Locks[b] = me
		if f.At != 1 || !mem.Same(m, want) {
			t.Errorf("%v, locked: %+v, want %+v", k, m, want)
		}
		f = Step(&m, Step(&m, Step(&m, f, me), me), me)
		want.Heads[b] = -1 - b
		if f.At != 5 || f.Slot != b || !mem.Same(m, want) {
			t.Errorf("%v, cut out: %+v, want %+v", k, m, want)
		}
		f = Step(&m, f, me)
		want.Locks[b] = -1
		if f.At != 6 || !mem.Same(m, want) {
			t.Errorf("%v, unlocked: %+v, want %+v", k, m, want)
		}
		f = Step(&m, f, me)
		want.Slots[b].Refs, want.Free = 0, append(want.Free, b)
		if !f.Done || f.E != api.OK || f.Slot != -1 || !mem.Same(m, want) {
			t.Errorf("%v, done: %+v, want %+v", k, m, want)
		}
	}
}

// rule: the chapter's words for memory of two chains, a case a line.
func rule(m api.Mem, f api.Frame, task int) (api.Mem, api.Frame) {
	m = wholeCopy(m)
	at := func(places ...int) bool { return slices.Contains(places, f.At) }
	b := map[api.Key]int{flow: 1, near: 1, far: 0}[f.C.K]
	standing := 1 <= f.Cur && f.Cur <= len(m.Slots)
	var here api.Slot
	if standing {
		here = m.Slots[f.Cur-1]
	}
	switch {
	case !at(0, 1, 2, 3, 4, 5, 6), at(3, 4) && !standing:
		f.E, f.At = api.ErrLate, 5
	case at(0) && m.Locks[b] == -1:
		m.Locks[b], f.At = task, 1
	case at(1):
		f.Prev, f.Cur, f.At = 0, m.Heads[b], 2
	case at(2) && !standing:
		f.E, f.At = api.ErrWho, 5
	case at(2) && here.K == f.C.K:
		f.At = 4
	case at(2):
		f.At = 3
	case at(3):
		f.Prev, f.Cur, f.At = f.Cur, here.Next, 2
	case at(4) && f.Prev == 0:
		m.Heads[b], f.Slot, f.E, f.At = here.Next, f.Cur-1, api.OK, 5
	case at(4):
		m.Slots[f.Prev-1].Next, f.Slot, f.E, f.At = here.Next, f.Cur-1, api.OK, 5
	case at(5) && m.Locks[b] == task:
		m.Locks[b], f.At = -1, 6
	case at(5):
		f.At = 6
	case at(6) && f.Slot == -1:
		f.Done = true
	case at(6):
		had := m.Slots[f.Slot].Refs
		m.Slots[f.Slot].Refs = max(had-1, 0)
		if had == 1 {
			m.Free = append(m.Free, f.Slot)
		}
		f.Slot, f.Done = -1, true
	}
	return m, f
}

// frames: all places of a Drop in memory of two slots and two chains.
func frames(do func(f api.Frame)) {
	for _, k := range []api.Key{flow, far} {
		for n := range 10 * 5 * 3 * 3 {
			f := newDrop(k)
			f.At, f.Cur, f.Slot, f.Prev, f.E = n%10, n/10%5-2, n/50%3-1, n/150, api.ErrForm
			do(f)
		}
	}
}

// memories: memory of two slots and two chains in which one slot is this, and the locks are had by whoever can have them.
func memories(s api.Slot, do func(m api.Mem)) {
	other := api.Slot{Refs: 1, K: near, Until: 4, In: true, Next: -2}
	for _, slots := range [][]api.Slot{{s, other}, {other, s}, {s, s}} {
		for _, locks := range [][]int{{-1, -1}, {me, me}, {1, 1}, {-1, me}, {me, -1}, {1, -1}, {-1, 1}} {
			m := api.Mem{Slots: slots, Heads: []int{-1, 2}, Locks: locks, Now: 3}
			for a := range slots {
				if slots[a].Refs == 0 {
					m.Free = append(m.Free, a)
				}
			}
			do(m)
		}
	}
}

// slotsOfAllKinds: what a slot of memory of two slots and two chains can be.
func slotsOfAllKinds(do func(s api.Slot)) {
	for _, k := range []api.Key{flow, near, far} {
		for _, refs := range []int{0, 1, 2, api.MaxRefs} {
			for n := range 2 * 5 {
				do(api.Slot{Refs: refs, K: k, Until: 3, In: n%2 == 0, Next: n/2 - 2})
			}
		}
	}
}

func TestStepOfAllPlacesInSmallMemory(t *testing.T) {
	slotsOfAllKinds(func(s api.Slot) {
		memories(s, func(m api.Mem) {
			frames(func(f api.Frame) {
				wantM, wantF := rule(m, f, me)
				n := wholeCopy(m)
				if got := Step(&n, f, me); !reflect.DeepEqual(got, wantF) || !mem.Same(n, wantM) {
					t.Fatalf("Step(%+v, %+v):\n%+v, want\n%+v;\nmemory %+v, want\n%+v", m, f, got, wantF, n, wantM)
				}
			})
		})
	})
}

// P7.1, P7.2: a Drop that goes on alone

func newDrop(k api.Key) api.Frame { return frame.New(api.Call{Kind: api.Drop, K: k}) }

// alone: a Drop that goes on alone, and at how many steps it is done.
func alone(t *testing.T, m *api.Mem, f api.Frame) (api.Frame, int) {
	t.Helper()
	for n := range 100 {
		if f = Step(m, f, me); f.Done {
			return f, n + 1
		}
	}
	t.Fatalf("a Drop that goes on alone isn't done: %+v in %+v", f, *m)
	return f, 0
}

// mapping: memory of so many slots and chains in which these flows are mapped, each ahead of those before.
func mapping(t *testing.T, many, buckets, until int, keys ...api.Key) api.Mem {
	t.Helper()
	m, e := mem.New(many, buckets)
	for _, k := range keys {
		var a int
		if e == api.OK {
			m, a, e = mem.Taken(m, k, until)
		}
		if e == api.OK {
			m, e = chain.Linked(m, a)
		}
	}
	if e != api.OK {
		t.Fatal(e)
	}
	return m
}

// byCalls: the memory that chapters 2 and 3's calls make of what a Drop of k is said to do.
func byCalls(t *testing.T, m api.Mem, k api.Key) (api.Mem, api.Errno) {
	t.Helper()
	n, a, e := chain.Without(m, k)
	if e == api.ErrWho {
		return m, e
	}
	if e == api.OK {
		n, e = mem.Let(n, a)
	}
	if e != api.OK {
		t.Fatal(e)
	}
	return n, e
}

func TestDropThatGoesOnAlone(t *testing.T) {
	for _, x := range []struct {
		what  string
		many  int
		keys  []api.Key
		now   int
		e     api.Errno
		steps int
	}{
		{"the only one", 1, []api.Key{flow}, 0, api.OK, 6},
		{"the only one of its chain", 3, []api.Key{flow, far}, 0, api.OK, 6},
		{"the first one", 3, []api.Key{near, flow}, 0, api.OK, 6},
		{"the last one", 3, []api.Key{flow, near}, 0, api.OK, 8},
		{"the one in the midst", 4, []api.Key{near, flow, side}, 0, api.OK, 8},
		{"the last one of three", 5, []api.Key{flow, near, far, side}, 1, api.OK, 10},
		{"one that is over", 3, []api.Key{flow, near}, 9, api.OK, 8},
		{"at the last time", 3, []api.Key{flow, near}, api.MaxTime, api.OK, 8},
		{"of an empty chain", 2, nil, 0, api.ErrWho, 5},
		{"without any slot", 0, nil, 0, api.ErrWho, 5},
		{"beside another chain's", 2, []api.Key{far}, 0, api.ErrWho, 5},
		{"beside another one", 2, []api.Key{near}, 0, api.ErrWho, 7},
		{"beside others", 3, []api.Key{near, far, side}, 0, api.ErrWho, 9},
		{"beside another one that is over", 2, []api.Key{near}, 9, api.ErrWho, 7},
		{"its key turned round", 2, []api.Key{{A: 2, B: 1}}, 0, api.ErrWho, 7},
	} {
		m := mapping(t, x.many, 2, 5, x.keys...)
		m.Now = x.now
		want, e := byCalls(t, m, flow)
		f, steps := alone(t, &m, newDrop(flow))
		if f.E != x.e || e != x.e || f.Slot != -1 || steps != x.steps {
			t.Errorf("%s: %v (by calls %v), slot %d, %d steps; want %v, -1, %d", x.what, f.E, e, f.Slot, steps, x.e, x.steps)
		}
		if !mem.Same(m, want) {
			t.Errorf("%s: memory is %+v, want %+v", x.what, m, want)
		}
	}
}

// A slot that somebody else holds is cut out, and is not free.
func TestDropOfWhatIsHeld(t *testing.T) {
	m := mapping(t, 2, 2, 5, flow, near)
	m, _ = mem.Held(m, 0)
	m, _ = mem.Held(m, 0)
	want := wholeCopy(m)
	want.Slots[1].Next, want.Slots[0].Refs = -2, 2
	if f, _ := alone(t, &m, newDrop(flow)); f.E != api.OK || f.Slot != -1 || !mem.Same(m, want) {
		t.Errorf("%+v in %+v, want %+v", f, m, want)
	}
}

// What was dropped is not there any more; what was dropped last is taken next.
func TestDropOfAsManyAsThereCanBe(t *testing.T) {
	for buckets := 1; buckets <= api.MaxBuckets; buckets++ {
		var keys []api.Key
		for a := range api.MaxSlots {
			keys = append(keys, api.Key{A: a, B: 3 * a % 7})
		}
		m := mapping(t, api.MaxSlots, buckets, 5, keys...)
		for n := range keys {
			a := 5 * n % len(keys)
			if f, _ := alone(t, &m, newDrop(keys[a])); f.E != api.OK || m.Free[len(m.Free)-1] != a {
				t.Errorf("%d chains: a Drop of %v: %+v, free %v", buckets, keys[a], f, m.Free)
			}
			want := wholeCopy(m)
			if f, _ := alone(t, &m, newDrop(keys[a])); f.E != api.ErrWho || !mem.Same(m, want) {
				t.Errorf("%d chains: another Drop of %v: %+v", buckets, keys[a], f)
			}
			if l, e := chain.Flows(m); e != api.OK || len(l) != len(keys)-1-n {
				t.Errorf("%d chains: mapped is %v, %v", buckets, l, e)
			}
		}
	}
}

// A Drop waits for a lock that another one has, however long, and changes nothing meanwhile.
func TestDropWaits(t *testing.T) {
	for _, k := range []api.Key{flow, far} {
		m := mapping(t, 3, 2, 5, near, flow, far)
		f := newDrop(k)
		m.Locks = []int{3, 3}
		want := wholeCopy(m)
		for range 50 {
			if g := Step(&m, f, me); !reflect.DeepEqual(g, f) || !mem.Same(m, want) {
				t.Fatalf("%v: %+v in %+v", k, g, m)
			}
		}
		m.Locks = []int{-1, -1}
		if f, _ = alone(t, &m, f); f.E != api.OK || f.Slot != -1 || !slices.Equal(m.Locks, []int{-1, -1}) {
			t.Errorf("%v: %+v, locks %v", k, f, m.Locks)
		}
	}
}

// Who comes to a place too late gives the lock back, puts what is in its hands, and is done so.
func TestDropThatIsLateGivesTheLockBack(t *testing.T) {
	for _, x := range [][3]int{{3, -2, 6}, {3, 0, -1}, {4, -2, 6}, {4, -1, -1}, {7, 1, 6}, {8, 1, -1}, {9, 1, 6}} {
		m, f := sample(), midst(x[0])
		f.Cur, f.Slot = x[1], x[2]
		want := sample()
		want.Locks[1] = -1
		if f.Slot == 6 {
			want.Slots[6].Refs, want.Free = 0, []int{5, 3, 6}
		}
		if g, steps := alone(t, &m, f); g.E != api.ErrLate || g.Slot != -1 || steps != 3 || !mem.Same(m, want) {
			t.Errorf("at %d: %+v, %d steps, %+v", x[0], g, steps, m)
		}
	}
}

// P1, P2 of DOC.md

// wild: memory as it may not be, of so many slots, chains and locks, in which this number stands wherever one can.
func wild(many, buckets, locks, n int) api.Mem {
	m := api.Mem{Free: []int{n, n}, Now: n}
	for range many {
		m.Slots = append(m.Slots, api.Slot{Refs: n, K: api.Key{A: n, B: n}, Until: n, In: n > 0, Next: n})
	}
	for range buckets {
		m.Heads = append(m.Heads, n)
	}
	for range locks {
		m.Locks = append(m.Locks, n)
	}
	return m
}

// wildFrames: frames of all kinds and places, whatever they stand at.
func wildFrames(do func(f api.Frame)) {
	numbers := append(farOut(), -3, -1, 0, 1, 3, 7)
	for _, kind := range []int{api.Drop, api.Sweep, 0, math.MinInt} {
		for _, at := range append(farOut(), -1, 0, 1, 2, 3, 4, 5, 6, 7, 8, 9, 10) {
			for _, n := range numbers {
				for _, a := range numbers {
					do(api.Frame{C: api.Call{Kind: kind, K: api.Key{A: a, B: n}, Time: n, Bucket: a}, At: at, Cur: n, Prev: a, Slot: a, N: n})
					do(api.Frame{C: api.Call{Kind: kind, K: flow, Time: n, Bucket: 1}, At: at, Cur: n, Prev: a, Slot: n, N: n})
				}
			}
		}
	}
}

func TestStepTakesAnything(t *testing.T) {
	var l []api.Mem
	for _, n := range append(farOut(), -1, 0, 1, 1000) {
		l = append(l, api.Mem{}, wild(0, 2, 2, n), wild(3, 0, 2, n), wild(3, 2, 0, n), wild(3, 2, 2, n), wild(40, 30, 20, n))
	}
	tasks := append(farOut(), -1, 0, 1, 5)
	i := 0
	wildFrames(func(f api.Frame) {
		for _, m := range l {
			i++
			task := tasks[i%len(tasks)]
			one, two := wholeCopy(m), wholeCopy(m)
			f1, f2 := Step(&one, f, task), Step(&two, f, task)
			if !reflect.DeepEqual(f1, f2) || !mem.Same(one, two) {
				t.Fatalf("Step(%+v, %+v, %d) twice: %+v, then %+v", m, f, task, f1, f2)
			}
			if len(one.Slots) != len(m.Slots) || len(one.Heads) != len(m.Heads) || len(one.Locks) != len(m.Locks) || one.Now != m.Now || f1.C != f.C || f1.N != f.N {
				t.Fatalf("Step(%+v, %+v, %d) changes what is none of its: %+v", m, f, task, one)
			}
		}
	})
}

func TestStepWithoutMemory(t *testing.T) {
	wildFrames(func(f api.Frame) {
		if got := Step(nil, f, me); !reflect.DeepEqual(got, f) {
			t.Fatalf("Step(nil, %+v): %+v", f, got)
		}
	})
}

// Where there is no such chain, none is locked, and none is changed.
func TestStepWithoutChains(t *testing.T) {
	for _, c := range []api.Call{{Kind: api.Drop, K: flow}, {Kind: api.Sweep, Bucket: 2}, {Kind: api.List, Bucket: -1}} {
		for at, then := range map[int]change{0: all(), 1: isLate(), 4: isLate(), 5: next(6)} {
			m, f := sample(), midst(at)
			f.C = c
			if c.Kind == api.Drop {
				m.Heads, m.Locks = nil, nil
			}
			wantM, wantF := wholeCopy(m), f
			then(&wantM, &wantF)
			if got := Step(&m, f, me); !reflect.DeepEqual(got, wantF) || !mem.Same(m, wantM) {
				t.Errorf("at %d of %+v: %+v, want %+v", at, c, got, wantF)
			}
		}
	}
}

// A call that is done is done: no step of it follows.
func TestStepOfWhatIsDone(t *testing.T) {
	for at := range 10 {
		m, f := sample(), midst(at)
		f.Done = true
		if got := Step(&m, f, me); !reflect.DeepEqual(got, f) || !mem.Same(m, sample()) {
			t.Errorf("done at %d: %+v, %+v", at, got, m)
		}
	}
}

// All that stands behind a list is somebody else's: steps don't write there, though they change what is in the list.
func TestStepLeavesSpareRoomAlone(t *testing.T) {
	marks := []int{77, 78, 79}
	for at := range 10 {
		slots := append(sample().Slots, api.Slot{Until: 77})
		heads, locks := append([]int{3, 2}, marks...), append([]int{-1, -1}, marks...)
		free := append([]int{5, 3}, marks...)
		keys := []api.Key{{A: 1, B: 2}, {A: 3, B: 4}, {A: 5, B: 6}}
		m := api.Mem{Slots: slots[:7], Heads: heads[:2], Free: free[:2], Locks: locks[:2], Now: 3}
		f := midst(at)
		f.Keys = keys[:2]
		for range 12 {
			f = Step(&m, f, me)
		}
		if slots[7] != (api.Slot{Until: 77}) || !slices.Equal(heads[2:], marks) || !slices.Equal(locks[2:], marks) || !slices.Equal(free, []int{5, 3, 77, 78, 79}) {
			t.Errorf("from %d on: room that is not the memory's is changed: %v, %v, %v, %v", at, slots, heads, locks, free)
		}
		if !f.Done || len(m.Free) != 3 {
			t.Errorf("from %d on: nothing was put: %+v, %+v", at, f, m)
		}
		if !slices.Equal(keys, []api.Key{{A: 1, B: 2}, {A: 3, B: 4}, {A: 5, B: 6}}) {
			t.Errorf("from %d on: keys that were handed in are changed: %v", at, keys)
		}
	}
}

// What one Step was given is not seen by the next one.
func TestStepKeepsNothing(t *testing.T) {
	for at := range 10 {
		m, n := sample(), sample()
		first := Step(&m, midst(at), me)
		other := wild(3, 2, 2, -1)
		Step(&other, midst(9-at), 4)
		m.Slots[0], m.Heads[1], m.Free = api.Slot{}, -1, nil
		if second := Step(&n, midst(at), me); !reflect.DeepEqual(first, second) {
			t.Errorf("at %d: %+v, then %+v", at, first, second)
		}
	}
}
