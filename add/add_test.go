package add

import (
	"math"
	"reflect"
	"slices"
	"testing"

	"turnstile/api"
	"turnstile/chain"
	"turnstile/frame"
	"turnstile/mem"
)

// Keys of two chains: flow, near and side are of chain 1, far is of chain 0.
var (
	flow = api.Key{A: 1, B: 2}
	near = api.Key{A: 0, B: 1}
	side = api.Key{A: 3, B: 0}
	far  = api.Key{A: 2, B: 0}
)

// me: the task whose Add it is.
const me = 2

// sample: chain 1 has slot 1 (near) ahead of slot 0 (flow), chain 0 has slot 2 (far); 4 and 3 are free, slot 5 is taken for flow, and not linked yet; the lock of chain 1 is mine, that of chain 0 another one's.
func sample() api.Mem {
	return api.Mem{
		Slots: []api.Slot{
			{Refs: 1, K: flow, Until: 5, In: true, Next: -2},
			{Refs: 2, K: near, Until: 6, In: true, Next: 1},
			{Refs: 3, K: far, Until: 7, In: true, Next: -1},
			{K: far, Until: 8, In: true, Next: 2},
			{K: side, Until: 9, Next: 3},
			{Refs: 1, K: flow, Until: 10, Next: 4},
		},
		Heads: []int{3, 2},
		Free:  []int{4, 3},
		Locks: []int{3, me},
		Now:   3,
	}
}

// midst: a frame of an Add of flow of which no field is zero, whatever it does next.
func midst(at int) api.Frame {
	return api.Frame{
		C:    api.Call{Kind: api.Add, K: flow, Time: 8, Bucket: 3, Slot: 2},
		At:   at,
		Cur:  2,
		Prev: 3,
		Slot: 5,
		N:    6,
		Keys: []api.Key{{A: 1, B: 2}, {A: 3, B: 4}},
		E:    api.ErrText,
	}
}

// wholeCopy shares nothing with m.
func wholeCopy(m api.Mem) api.Mem {
	m.Slots, m.Heads = slices.Clone(m.Slots), slices.Clone(m.Heads)
	m.Free, m.Locks = slices.Clone(m.Free), slices.Clone(m.Locks)
	return m
}

// farOut: numbers that no list has a place for.
func farOut() []int { return []int{math.MinInt, math.MinInt + 1, math.MaxInt - 1, math.MaxInt} }

// P6.1: each place

// change of memory and a frame.
type change func(m *api.Mem, f *api.Frame)

// one: a step from a sample and a frame in the midst of an Add that were changed so (given), and all that it changes (then).
type one struct {
	what  string
	at    int
	given change
	then  change
}

// all does one change after the other.
func all(l ...change) change {
	return func(m *api.Mem, f *api.Frame) {
		for _, c := range l {
			c(m, f)
		}
	}
}

func next(at int) change   { return func(m *api.Mem, f *api.Frame) { f.At = at } }
func cur(n int) change     { return func(m *api.Mem, f *api.Frame) { f.Cur = n } }
func slot(a int) change    { return func(m *api.Mem, f *api.Frame) { f.Slot = a } }
func of(k api.Key) change  { return func(m *api.Mem, f *api.Frame) { f.C.K = k } }
func e(e api.Errno) change { return func(m *api.Mem, f *api.Frame) { f.E = e } }
func done() change         { return func(m *api.Mem, f *api.Frame) { f.Done = true } }

func lockOf(b, task int) change { return func(m *api.Mem, f *api.Frame) { m.Locks[b] = task } }
func headOf(b, n int) change    { return func(m *api.Mem, f *api.Frame) { m.Heads[b] = n } }
func now(n int) change          { return func(m *api.Mem, f *api.Frame) { m.Now = n } }
func time(n int) change         { return func(m *api.Mem, f *api.Frame) { f.C.Time = n } }
func free(l ...int) change      { return func(m *api.Mem, f *api.Frame) { m.Free = l } }

// is: a slot is otherwise.
func is(a int, how func(s *api.Slot)) change {
	return func(m *api.Mem, f *api.Frame) { how(&m.Slots[a]) }
}

func refs(a, n int) change   { return is(a, func(s *api.Slot) { s.Refs = n }) }
func behind(a, n int) change { return is(a, func(s *api.Slot) { s.Next = n }) }

// taken: slot a is taken for k until then.
func taken(a int, k api.Key, until int) change {
	return all(is(a, func(s *api.Slot) { s.Refs, s.K, s.Until, s.In = 1, k, until, false }), slot(a))
}

// linked: slot a is ahead of what its chain began with.
func linked(b, a, begin int) change {
	return all(is(a, func(s *api.Slot) { s.In, s.Next = true, begin }), headOf(b, a+1))
}

// isLate: nothing else is done.
func isLate() change { return all(e(api.ErrLate), next(7)) }

func takeSteps() []one {
	none := all(free(), refs(3, 1), refs(4, 1))
	return []one{
		{"the last one", 0, all(), all(taken(3, flow, 11), free(4), next(1))},
		{"the other one", 0, free(3, 4), all(taken(4, flow, 11), free(3), next(1))},
		{"the only one", 0, all(free(4), refs(3, 1)), all(taken(4, flow, 11), free(), next(1))},
		{"with nothing in its hands", 0, slot(-1), all(taken(3, flow, 11), free(4), next(1))},
		{"of another chain", 0, of(far), all(taken(3, far, 11), free(4), next(1))},
		{"of what is not mapped", 0, of(side), all(taken(3, side, 11), free(4), next(1))},
		{"with a lock that another one has", 0, lockOf(1, 4), all(taken(3, flow, 11), free(4), next(1))},
		{"none", 0, none, all(e(api.ErrFull), done())},
		{"none, and nothing in its hands", 0, all(none, slot(-1)), all(e(api.ErrFull), done())},
		{"none, and a lock that nobody has", 0, all(none, lockOf(1, -1)), all(e(api.ErrFull), done())},
	}
}

// timeSteps: the edges of the time until which a slot is taken.
func timeSteps() []one {
	var l []one
	for _, x := range [][3]int{
		{0, 1, 1},
		{0, api.MaxTime, api.MaxTime},
		{api.MaxTime, 1, api.MaxTime + 1},
		{1, api.MaxTime, api.MaxTime + 1},
		{api.MaxTime - 1, api.MaxTime, 2*api.MaxTime - 1},
		{api.MaxTime, api.MaxTime - 1, 2*api.MaxTime - 1},
		{api.MaxTime, api.MaxTime, 2 * api.MaxTime},
	} {
		l = append(l, one{"until a time", 0, all(now(x[0]), time(x[1])), all(taken(3, flow, x[2]), free(4), next(1))})
	}
	return l
}

// tooLongSteps: sums above twice MaxTime, which only times have that chapters 2 or 4 don't take.
func tooLongSteps() []one {
	var l []one
	for _, x := range [][2]int{
		{api.MaxTime, api.MaxTime + 1}, {api.MaxTime + 1, api.MaxTime}, {0, 2*api.MaxTime + 1}, {2*api.MaxTime + 1, 0},
		{0, math.MaxInt}, {math.MaxInt, 0}, {1, math.MaxInt}, {math.MaxInt, 1}, {math.MaxInt, math.MaxInt},
	} {
		l = append(l, one{"until too late a time", 0, all(now(x[0]), time(x[1])), all(taken(3, flow, 2*api.MaxTime), free(4), next(1))})
	}
	for _, x := range [][3]int{
		{0, 2*api.MaxTime - 1, 2*api.MaxTime - 1}, {0, 2 * api.MaxTime, 2 * api.MaxTime}, {-1, 2*api.MaxTime + 1, 2 * api.MaxTime}, {math.MinInt, math.MaxInt, -1},
	} {
		l = append(l, one{"until a time that comes of wrong ones", 0, all(now(x[0]), time(x[1])), all(taken(3, flow, x[2]), free(4), next(1))})
	}
	return l
}

func lockSteps() []one {
	return []one{
		{"nobody has it", 1, lockOf(1, -1), all(lockOf(1, me), next(2))},
		{"nobody has any", 1, all(lockOf(0, -1), lockOf(1, -1)), all(lockOf(1, me), next(2))},
		{"the task has another chain's", 1, all(lockOf(0, me), lockOf(1, -1)), all(lockOf(1, me), next(2))},
		{"nobody has it, of chain 0", 1, all(of(far), lockOf(0, -1)), all(lockOf(0, me), next(2))},
		{"nobody has it, nothing in its hands", 1, all(lockOf(1, -1), slot(-1)), all(lockOf(1, me), next(2))},
		{"the task has it", 1, all(), all()},
		{"the first task has it", 1, lockOf(1, 0), all()},
		{"another one has it", 1, lockOf(1, 1), all()},
		{"the last one has it", 1, lockOf(1, api.MaxTasks-1), all()},
		{"another one has it, nobody the other one", 1, all(lockOf(0, -1), lockOf(1, 1)), all()},
		{"another one has it, of chain 0", 1, all(of(far), lockOf(1, -1)), all()},
	}
}

func beginSteps() []one {
	return []one{
		{"a slot", 2, cur(0), all(cur(2), next(3))},
		{"its own end", 2, headOf(1, -2), all(cur(-2), next(3))},
		{"another end", 2, headOf(1, -1), all(cur(-1), next(3))},
		{"the last slot", 2, headOf(1, 6), all(cur(6), next(3))},
		{"of chain 0", 2, of(far), all(cur(3), next(3))},
		{"without the lock", 2, lockOf(1, -1), all(cur(2), next(3))},
		{"with nothing in its hands", 2, slot(-1), all(cur(2), next(3))},
	}
}

func sightSteps() []one {
	key := func(k api.Key) change { return all(cur(1), is(0, func(s *api.Slot) { s.K = k })) }
	return []one{
		{"its own end", 3, cur(-2), next(5)},
		{"another end", 3, cur(-1), next(5)},
		{"nothing", 3, cur(0), next(5)},
		{"its own end, nothing in its hands", 3, all(cur(-2), slot(-1)), next(5)},
		{"its key", 3, cur(1), next(6)},
		{"its key, over", 3, all(cur(1), now(9)), next(6)},
		{"its key, not In", 3, cur(6), next(6)},
		{"its key, free", 3, all(cur(4), is(3, func(s *api.Slot) { s.K = flow })), next(6)},
		{"another key", 3, cur(2), next(4)},
		{"another chain's key", 3, cur(3), next(4)},
		{"another key, free", 3, cur(4), next(4)},
		{"its key turned round", 3, key(api.Key{A: 2, B: 1}), next(4)},
		{"one end of its key", 3, key(api.Key{A: 1, B: 3}), next(4)},
		{"the other end of its key", 3, key(api.Key{A: 3, B: 2}), next(4)},
	}
}

func passSteps() []one {
	return []one{
		{"a slot behind", 4, cur(2), all(cur(1), next(3))},
		{"its own end behind", 4, cur(1), all(cur(-2), next(3))},
		{"another end behind", 4, cur(3), all(cur(-1), next(3))},
		{"behind a free one", 4, cur(4), all(cur(2), next(3))},
		{"behind the last one", 4, cur(6), all(cur(4), next(3))},
		{"nothing behind", 4, all(cur(6), behind(5, 0)), all(cur(0), next(3))},
		{"itself behind", 4, all(cur(6), behind(5, 6)), all(cur(6), next(3))},
	}
}

func linkSteps() []one {
	then := all(e(api.OK), next(7))
	return []one{
		{"ahead of others", 5, all(), all(linked(1, 5, 2), then)},
		{"into an empty chain", 5, headOf(1, -2), all(linked(1, 5, -2), then)},
		{"into chain 0", 5, of(far), all(linked(0, 5, 3), then)},
		{"into an empty chain 0", 5, all(of(far), headOf(0, -1)), all(linked(0, 5, -1), then)},
		{"into one chain of one", 5, func(m *api.Mem, f *api.Frame) {
			m.Heads, m.Locks, m.Slots[0].Next = []int{1}, []int{me}, -1
		}, all(linked(0, 5, 1), then)},
		{"the first slot", 5, slot(0), all(linked(1, 0, 2), then)},
		{"what is free", 5, slot(3), all(linked(1, 3, 2), then)},
		{"wherever it stands", 5, cur(-1), all(linked(1, 5, 2), then)},
		{"without the lock", 5, lockOf(1, -1), all(linked(1, 5, 2), then)},
		{"what the chain begins with", 5, headOf(1, 6), all(linked(1, 5, 6), then)},
		{"held by more than one", 5, refs(5, 4), all(linked(1, 5, 2), then)},
	}
}

func putSteps() []one {
	then := all(slot(-1), e(api.ErrTwice), next(7))
	return []one{
		{"held once", 6, all(), all(refs(5, 0), free(4, 3, 5), then)},
		{"held once, the only one that is free then", 6, all(free(), refs(3, 1), refs(4, 1)), all(refs(5, 0), free(5), then)},
		{"held twice", 6, refs(5, 2), all(refs(5, 1), then)},
		{"held by some", 6, refs(5, 3), all(refs(5, 2), then)},
		{"held by most", 6, refs(5, api.MaxRefs), all(refs(5, api.MaxRefs-1), then)},
		{"held by nobody", 6, slot(3), then},
		{"the first slot", 6, slot(0), all(refs(0, 0), free(4, 3, 0), then)},
		{"wherever it stands", 6, all(cur(-1), refs(5, 2)), all(refs(5, 1), then)},
		{"without the lock", 6, all(lockOf(1, 4), refs(5, 2)), all(refs(5, 1), then)},
	}
}

func unlockSteps() []one {
	l := []one{
		{"another one's stays", 7, lockOf(1, 1), done()},
		{"the first task's stays", 7, lockOf(1, 0), done()},
		{"nobody's stays", 7, lockOf(1, -1), done()},
		{"its own of another chain stays", 7, all(lockOf(0, me), lockOf(1, 4)), done()},
		{"its own of two chains", 7, lockOf(0, me), all(lockOf(1, -1), done())},
		{"its own of chain 0", 7, all(of(far), lockOf(0, me)), all(lockOf(0, -1), done())},
		{"another one's of chain 0 stays", 7, of(far), done()},
		{"nothing in its hands", 7, slot(-1), all(lockOf(1, -1), done())},
	}
	for x := api.OK; x <= api.ErrLate; x++ {
		l = append(l, one{"E is as it is", 7, e(x), all(lockOf(1, -1), done())})
	}
	return l
}

// takenSteps: steps that are to be done, and of which chapters 2 and 4 take the memory and the frame.
func takenSteps() []one {
	l := slices.Concat(takeSteps(), timeSteps(), lockSteps(), beginSteps(), sightSteps(), passSteps(), linkSteps(), putSteps(), unlockSteps())
	for _, n := range []int{-2, -1, 0} {
		l = append(l, one{"stands at no slot", 4, cur(n), isLate()})
	}
	for at := 5; at <= 6; at++ {
		l = append(l, one{"has no slot", at, slot(-1), isLate()}, one{"has no slot, nor the lock", at, all(slot(-1), lockOf(1, 4)), isLate()})
	}
	for at := 8; at <= 9; at++ {
		l = append(l, one{"no such place", at, all(), isLate()}, one{"no such place, no slot", at, slot(-1), isLate()})
	}
	return l
}

// noSteps: what is out of bounds.
func noSteps() []one {
	var l []one
	for _, at := range append(farOut(), -2, -1, 10, 11) {
		l = append(l, one{"no such place", at, all(), isLate()})
	}
	for _, n := range append(farOut(), -3, 7) {
		l = append(l, one{"stands at what there is not", 3, cur(n), next(5)}, one{"stands at no slot", 4, cur(n), isLate()})
	}
	for _, a := range append(farOut(), -2, 6) {
		l = append(l, one{"has no slot", 5, slot(a), isLate()}, one{"has no slot", 6, slot(a), isLate()})
		l = append(l, one{"what is free is no slot", 0, free(4, a), all(e(api.ErrFull), done())})
	}
	return l
}

func TestStep(t *testing.T) {
	for _, x := range slices.Concat(takenSteps(), tooLongSteps(), noSteps()) {
		m, f := sample(), midst(x.at)
		x.given(&m, &f)
		wantM, wantF := wholeCopy(m), f
		wantF.Keys = slices.Clone(f.Keys)
		x.then(&wantM, &wantF)
		if got := Step(&m, f, me); !reflect.DeepEqual(got, wantF) || !mem.Same(m, wantM) {
			t.Errorf("at %d, %s:\n%+v, want\n%+v;\nmemory %+v, want\n%+v", x.at, x.what, got, wantF, m, wantM)
		}
	}
}

// What takenSteps has is what is promised: chapters 2 and 4 take it.
func TestStepIsAskedForWhatIsTaken(t *testing.T) {
	for _, x := range takenSteps() {
		m, f := sample(), midst(x.at)
		x.given(&m, &f)
		if e := mem.Check(m); e != api.OK {
			t.Errorf("at %d, %s: chapter 2 doesn't take %+v: %v", x.at, x.what, m, e)
		}
		if e := frame.Check(m, f); e != api.OK {
			t.Errorf("at %d, %s: chapter 4 doesn't take %+v: %v", x.at, x.what, f, e)
		}
	}
}

// Each task can have the lock, and gives back none but its own.
func TestStepOfEachTask(t *testing.T) {
	for task := range api.MaxTasks {
		for had := -1; had < api.MaxTasks; had++ {
			m, want := sample(), sample()
			m.Locks[1], want.Locks[1] = had, had
			at := 1
			if had == -1 {
				want.Locks[1], at = task, 2
			}
			if f := Step(&m, midst(1), task); f.At != at || !mem.Same(m, want) {
				t.Errorf("task %d, a lock of %d: at %d, %+v, want %d, %+v", task, had, f.At, m.Locks, at, want.Locks)
			}
			m.Locks[1], want.Locks[1] = had, had
			if had == task {
				want.Locks[1] = -1
			}
			if f := Step(&m, midst(7), task); !f.Done || !mem.Same(m, want) {
				t.Errorf("task %d gives back a lock of %d: %+v, want %+v", task, had, m.Locks, want.Locks)
			}
		}
	}
}

// The chain of each key is its own, of as many chains as there can be.
func TestStepInEachChain(t *testing.T) {
	for b, k := range []api.Key{{A: 4, B: 0}, {A: 0, B: 3}, {A: 2, B: 0}, {A: 1, B: 0}} {
		m, _ := mem.New(2, api.MaxBuckets)
		want, a, _ := mem.Taken(m, k, 1)
		f := frame.New(api.Call{Kind: api.Add, K: k, Time: 1})
		f = Step(&m, Step(&m, f, me), me)
		want.Locks[b] = me
		if f.At != 2 || !mem.Same(m, want) {
			t.Errorf("%v, locked: %+v, want %+v", k, m, want)
		}
		f = Step(&m, Step(&m, Step(&m, f, me), me), me)
		want.Heads[b], want.Slots[a].Next, want.Slots[a].In = a+1, -1-b, true
		if f.At != 7 || !mem.Same(m, want) {
			t.Errorf("%v, linked: %+v, want %+v", k, m, want)
		}
		f = Step(&m, f, me)
		want.Locks[b] = -1
		if !f.Done || f.E != api.OK || !mem.Same(m, want) {
			t.Errorf("%v, done: %+v, want %+v", k, m, want)
		}
	}
}

// rule: the chapter's words for memory of two chains, a case a line.
func rule(m api.Mem, f api.Frame, task int) (api.Mem, api.Frame) {
	m = wholeCopy(m)
	at := func(places ...int) bool { return slices.Contains(places, f.At) }
	b := map[api.Key]int{flow: 1, near: 1, far: 0}[f.C.K]
	standing := 1 <= f.Cur && f.Cur <= len(m.Slots)
	var here, mine api.Slot
	if standing {
		here = m.Slots[f.Cur-1]
	}
	if f.Slot != -1 {
		mine = m.Slots[f.Slot]
	}
	switch {
	case !at(0, 1, 2, 3, 4, 5, 6, 7), at(4) && !standing, at(5, 6) && f.Slot == -1:
		f.E, f.At = api.ErrLate, 7
	case at(0) && len(m.Free) == 0:
		f.Done, f.E = true, api.ErrFull
	case at(0):
		f.Slot, m.Free = m.Free[len(m.Free)-1], m.Free[:len(m.Free)-1]
		m.Slots[f.Slot] = api.Slot{Refs: 1, K: f.C.K, Until: m.Now + f.C.Time, Next: m.Slots[f.Slot].Next}
		f.At = 1
	case at(1) && m.Locks[b] == -1:
		m.Locks[b], f.At = task, 2
	case at(2):
		f.Cur, f.At = m.Heads[b], 3
	case at(3) && !standing:
		f.At = 5
	case at(3) && here.K == f.C.K:
		f.At = 6
	case at(3):
		f.At = 4
	case at(4):
		f.Cur, f.At = here.Next, 3
	case at(5):
		m.Slots[f.Slot].Next, m.Slots[f.Slot].In, m.Heads[b] = m.Heads[b], true, f.Slot+1
		f.E, f.At = api.OK, 7
	case at(6):
		m.Slots[f.Slot].Refs = max(mine.Refs-1, 0)
		if mine.Refs == 1 {
			m.Free = append(m.Free, f.Slot)
		}
		f.Slot, f.E, f.At = -1, api.ErrTwice, 7
	case at(7):
		if m.Locks[b] == task {
			m.Locks[b] = -1
		}
		f.Done = true
	}
	return m, f
}

// frames: all places of an Add in memory of two slots and two chains.
func frames(do func(f api.Frame)) {
	for _, k := range []api.Key{flow, far} {
		for n := range 10 * 5 * 3 {
			f := frame.New(api.Call{Kind: api.Add, K: k, Time: 2})
			f.At, f.Cur, f.Slot, f.E = n%10, n/10%5-2, n/50-1, api.ErrForm
			do(f)
		}
	}
}

// memories: memory of two slots and two chains in which one slot is this, and the locks are had by whoever can have them.
func memories(s api.Slot, do func(m api.Mem)) {
	other := api.Slot{Refs: 1, K: near, Until: 4, In: true, Next: -2}
	for _, slots := range [][]api.Slot{{s, other}, {other, s}, {s, s}} {
		for _, locks := range [][]int{{-1, -1}, {me, me}, {1, 1}, {-1, me}, {me, -1}, {1, -1}, {-1, 1}} {
			m := api.Mem{Slots: slots, Heads: []int{-1, 2}, Locks: locks, Now: 3}
			for a := range slots {
				if slots[a].Refs == 0 {
					m.Free = append(m.Free, a)
				}
			}
			do(m)
		}
	}
}

// slotsOfAllKinds: what a slot of memory of two slots and two chains can be.
func slotsOfAllKinds(do func(s api.Slot)) {
	for _, k := range []api.Key{flow, near, far} {
		for _, refs := range []int{0, 1, 2, api.MaxRefs} {
			for n := range 2 * 5 {
				do(api.Slot{Refs: refs, K: k, Until: 3, In: n%2 == 0, Next: n/2 - 2})
			}
		}
	}
}

func TestStepOfAllPlacesInSmallMemory(t *testing.T) {
	slotsOfAllKinds(func(s api.Slot) {
		memories(s, func(m api.Mem) {
			frames(func(f api.Frame) {
				wantM, wantF := rule(m, f, me)
				n := wholeCopy(m)
				if got := Step(&n, f, me); !reflect.DeepEqual(got, wantF) || !mem.Same(n, wantM) {
					t.Fatalf("Step(%+v, %+v):\n%+v, want\n%+v;\nmemory %+v, want\n%+v", m, f, got, wantF, n, wantM)
				}
			})
		})
	})
}

// P6.1, P6.2: an Add that goes on alone

func newAdd(k api.Key, time int) api.Frame {
	return frame.New(api.Call{Kind: api.Add, K: k, Time: time})
}

// alone: an Add that goes on alone, and at how many steps it is done.
func alone(t *testing.T, m *api.Mem, f api.Frame) (api.Frame, int) {
	t.Helper()
	for n := range 100 {
		if f = Step(m, f, me); f.Done {
			return f, n + 1
		}
	}
	t.Fatalf("an Add that goes on alone isn't done: %+v in %+v", f, *m)
	return f, 0
}

// mapping: memory of so many slots and chains in which these flows are mapped, each ahead of those before.
func mapping(t *testing.T, many, buckets, until int, keys ...api.Key) api.Mem {
	t.Helper()
	m, e := mem.New(many, buckets)
	for _, k := range keys {
		var a int
		if e == api.OK {
			m, a, e = mem.Taken(m, k, until)
		}
		if e == api.OK {
			m, e = chain.Linked(m, a)
		}
	}
	if e != api.OK {
		t.Fatal(e)
	}
	return m
}

// byCalls: the memory that chapters 2 and 3's calls make of what an Add of flow is said to do.
func byCalls(t *testing.T, m api.Mem, until int, want api.Errno) (api.Mem, int) {
	t.Helper()
	if want == api.ErrFull {
		return m, -1
	}
	m, a, e := mem.Taken(m, flow, until)
	if e == api.OK && want == api.ErrTwice {
		m, e = mem.Let(m, a)
		a = -1
	} else if e == api.OK {
		m, e = chain.Linked(m, a)
	}
	if e != api.OK {
		t.Fatal(e)
	}
	return m, a
}

func TestAddThatGoesOnAlone(t *testing.T) {
	for _, x := range []struct {
		what  string
		many  int
		keys  []api.Key
		now   int
		e     api.Errno
		steps int
	}{
		{"into empty chains", 2, nil, 0, api.OK, 6},
		{"into the only slot", 1, nil, 0, api.OK, 6},
		{"beside another chain's", 3, []api.Key{far}, 0, api.OK, 6},
		{"beside one other", 3, []api.Key{near}, 0, api.OK, 8},
		{"beside others", 4, []api.Key{near, far, side}, 1, api.OK, 10},
		{"beside one that is over", 3, []api.Key{near}, 9, api.OK, 8},
		{"at the last time", 3, []api.Key{near}, api.MaxTime, api.OK, 8},
		{"twice, the first one", 2, []api.Key{flow}, 0, api.ErrTwice, 6},
		{"twice, the second one", 3, []api.Key{flow, near}, 0, api.ErrTwice, 8},
		{"twice, the last one", 5, []api.Key{flow, near, far, side}, 0, api.ErrTwice, 10},
		{"twice, the one that is there being over", 2, []api.Key{flow}, 9, api.ErrTwice, 6},
		{"without any slot", 0, nil, 0, api.ErrFull, 1},
		{"full of others", 2, []api.Key{near, far}, 0, api.ErrFull, 1},
		{"full, and it is there", 2, []api.Key{flow, far}, 0, api.ErrFull, 1},
	} {
		m := mapping(t, x.many, 2, 5, x.keys...)
		m.Now = x.now
		want, a := byCalls(t, m, x.now+4, x.e)
		f, steps := alone(t, &m, newAdd(flow, 4))
		if f.E != x.e || f.Slot != a || steps != x.steps {
			t.Errorf("%s: %v, slot %d, %d steps; want %v, %d, %d", x.what, f.E, f.Slot, steps, x.e, a, x.steps)
		}
		if !mem.Same(m, want) {
			t.Errorf("%s: memory is %+v, want %+v", x.what, m, want)
		}
	}
}

func TestAddOfAsManyAsThereCanBe(t *testing.T) {
	for buckets := 1; buckets <= api.MaxBuckets; buckets++ {
		m, _ := mem.New(api.MaxSlots, buckets)
		for a := range api.MaxSlots {
			k := api.Key{A: a, B: 3 * a % 7}
			if f, _ := alone(t, &m, newAdd(k, a+1)); f.E != api.OK || f.Slot != a || m.Slots[a].Until != a+1 {
				t.Errorf("%d chains: an Add of %v: %+v", buckets, k, f)
			}
			if f, _ := alone(t, &m, newAdd(k, 1)); a+1 < api.MaxSlots && (f.E != api.ErrTwice || f.Slot != -1) {
				t.Errorf("%d chains: another Add of %v: %+v", buckets, k, f)
			}
			if l, e := chain.Flows(m); e != api.OK || len(l) != a+1 {
				t.Errorf("%d chains: mapped is %v, %v", buckets, l, e)
			}
		}
		want := wholeCopy(m)
		if f, _ := alone(t, &m, newAdd(api.Key{A: 15, B: 15}, 1)); f.E != api.ErrFull || f.Slot != -1 || !mem.Same(m, want) {
			t.Errorf("%d chains: an Add that has no slot: %+v", buckets, f)
		}
	}
}

// An Add waits for a lock that another one has, however long, and changes nothing meanwhile.
func TestAddWaits(t *testing.T) {
	for _, k := range []api.Key{flow, far} {
		m := mapping(t, 3, 2, 5, near)
		f := Step(&m, newAdd(k, 4), me)
		a := f.Slot
		m.Locks = []int{3, 3}
		want := wholeCopy(m)
		for range 50 {
			if g := Step(&m, f, me); !reflect.DeepEqual(g, f) || !mem.Same(m, want) {
				t.Fatalf("%v: %+v in %+v", k, g, m)
			}
		}
		m.Locks = []int{-1, -1}
		if f, _ = alone(t, &m, f); f.E != api.OK || f.Slot != a || !slices.Equal(m.Locks, []int{-1, -1}) {
			t.Errorf("%v: %+v, locks %v", k, f, m.Locks)
		}
	}
}

// Who comes to a place too late gives the lock back, and is done so.
func TestAddThatIsLateGivesTheLockBack(t *testing.T) {
	for _, x := range [][3]int{{4, -2, 5}, {5, 1, -1}, {6, 1, -1}, {8, 1, 5}, {9, 1, 5}} {
		m, f := sample(), midst(x[0])
		f.Cur, f.Slot = x[1], x[2]
		want := sample()
		want.Locks[1] = -1
		if g, steps := alone(t, &m, f); g.E != api.ErrLate || g.Slot != f.Slot || steps != 2 || !mem.Same(m, want) {
			t.Errorf("at %d: %+v, %d steps, %+v", x[0], g, steps, m)
		}
	}
}

// P1, P2 of DOC.md

// wild: memory as it may not be, of so many slots, chains and locks, in which this number stands wherever one can.
func wild(many, buckets, locks, n int) api.Mem {
	m := api.Mem{Free: []int{n, n}, Now: n}
	for range many {
		m.Slots = append(m.Slots, api.Slot{Refs: n, K: api.Key{A: n, B: n}, Until: n, In: n > 0, Next: n})
	}
	for range buckets {
		m.Heads = append(m.Heads, n)
	}
	for range locks {
		m.Locks = append(m.Locks, n)
	}
	return m
}

// wildFrames: frames of all kinds and places, whatever they stand at.
func wildFrames(do func(f api.Frame)) {
	numbers := append(farOut(), -3, -1, 0, 1, 3, 7)
	for _, kind := range []int{api.Add, api.Sweep, 0, math.MinInt} {
		for _, at := range append(farOut(), -1, 0, 1, 2, 3, 4, 5, 6, 7, 8, 9, 10) {
			for _, n := range numbers {
				for _, a := range numbers {
					do(api.Frame{C: api.Call{Kind: kind, K: api.Key{A: a, B: n}, Time: n, Bucket: a}, At: at, Cur: n, Prev: a, Slot: a, N: n})
				}
			}
		}
	}
}

func TestStepTakesAnything(t *testing.T) {
	var l []api.Mem
	for _, n := range append(farOut(), -1, 0, 1, 1000) {
		l = append(l, api.Mem{}, wild(0, 2, 2, n), wild(3, 0, 2, n), wild(3, 2, 0, n), wild(3, 2, 2, n), wild(40, 30, 20, n))
	}
	tasks := append(farOut(), -1, 0, 1, 5)
	i := 0
	wildFrames(func(f api.Frame) {
		for _, m := range l {
			i++
			task := tasks[i%len(tasks)]
			one, two := wholeCopy(m), wholeCopy(m)
			f1, f2 := Step(&one, f, task), Step(&two, f, task)
			if !reflect.DeepEqual(f1, f2) || !mem.Same(one, two) {
				t.Fatalf("Step(%+v, %+v, %d) twice: %+v, then %+v", m, f, task, f1, f2)
			}
			if len(one.Slots) != len(m.Slots) || len(one.Heads) != len(m.Heads) || len(one.Locks) != len(m.Locks) || one.Now != m.Now || f1.C != f.C {
				t.Fatalf("Step(%+v, %+v, %d) changes what is none of its: %+v", m, f, task, one)
			}
		}
	})
}

func TestStepWithoutMemory(t *testing.T) {
	wildFrames(func(f api.Frame) {
		if got := Step(nil, f, me); !reflect.DeepEqual(got, f) {
			t.Fatalf("Step(nil, %+v): %+v", f, got)
		}
	})
}

// Where there is no such chain, none is locked, and none is changed.
func TestStepWithoutChains(t *testing.T) {
	for _, c := range []api.Call{{Kind: api.Add, K: flow, Time: 1}, {Kind: api.Sweep, Bucket: 2}, {Kind: api.List, Bucket: -1}} {
		for at, then := range map[int]change{1: all(), 2: isLate(), 5: isLate(), 7: done()} {
			m, f := sample(), midst(at)
			f.C = c
			if c.Kind == api.Add {
				m.Heads, m.Locks = nil, nil
			}
			wantM, wantF := wholeCopy(m), f
			then(&wantM, &wantF)
			if got := Step(&m, f, me); !reflect.DeepEqual(got, wantF) || !mem.Same(m, wantM) {
				t.Errorf("at %d of %+v: %+v, want %+v", at, c, got, wantF)
			}
		}
	}
}

// A call that is done is done: no step of it follows.
func TestStepOfWhatIsDone(t *testing.T) {
	for at := range 10 {
		m, f := sample(), midst(at)
		f.Done = true
		if got := Step(&m, f, me); !reflect.DeepEqual(got, f) || !mem.Same(m, sample()) {
			t.Errorf("done at %d: %+v, %+v", at, got, m)
		}
	}
}

// All that stands behind a list is somebody else's: steps don't write there, though they change what is in the list.
func TestStepLeavesSpareRoomAlone(t *testing.T) {
	marks := []int{77, 78, 79}
	for at := range 10 {
		slots := append(sample().Slots, api.Slot{Until: 77})
		heads, locks := append([]int{3, 2}, marks...), append([]int{-1, -1}, marks...)
		// what is free ends within a longer list: to take a slot, and to put one then, leaves the rest of it.
		free := append([]int{4, 3}, marks...)
		keys := []api.Key{{A: 1, B: 2}, {A: 3, B: 4}, {A: 5, B: 6}}
		m := api.Mem{Slots: slots[:6], Heads: heads[:2], Free: free[:2], Locks: locks[:2], Now: 3}
		f := midst(at)
		f.Keys = keys[:2]
		for range 12 {
			f = Step(&m, f, me)
		}
		if slots[6] != (api.Slot{Until: 77}) || !slices.Equal(heads[2:], marks) || !slices.Equal(locks[2:], marks) || !slices.Equal(free, []int{4, 3, 77, 78, 79}) {
			t.Errorf("from %d on: room that is not the memory's is changed: %v, %v, %v, %v", at, slots, heads, locks, free)
		}
		if !slices.Equal(keys, []api.Key{{A: 1, B: 2}, {A: 3, B: 4}, {A: 5, B: 6}}) {
			t.Errorf("from %d on: keys that were handed in are changed: %v", at, keys)
		}
	}
}

// What one Step was given is not seen by the next one.
func TestStepKeepsNothing(t *testing.T) {
	for at := range 10 {
		m, n := sample(), sample()
		first := Step(&m, midst(at), me)
		other := wild(3, 2, 2, -1)
		Step(&other, midst(9-at), 4)
		m.Slots[0], m.Heads[1], m.Free = api.Slot{}, -1, nil
		if second := Step(&n, midst(at), me); !reflect.DeepEqual(first, second) {
			t.Errorf("at %d: %+v, then %+v", at, first, second)
		}
	}
}
