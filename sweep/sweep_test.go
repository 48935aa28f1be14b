package sweep

import (
	"math"
	"reflect"
	"slices"
	"testing"

	"turnstile/api"
	"turnstile/chain"
	"turnstile/frame"
	"turnstile/mem"
)

// Keys of two chains: flow, near and side are of chain 1, far is of chain 0.
var (
	flow = api.Key{A: 1, B: 2}
	near = api.Key{A: 0, B: 1}
	side = api.Key{A: 3, B: 0}
	far  = api.Key{A: 2, B: 0}
)

// me: the task whose call it is.
const me = 2

// sample: chain 1 has slot 1 (near, which lasts), slot 0 (flow, over just now) and slot 4 (side, over), chain 0 has slot 2 (far, over just now); 5 and 3 are free, slot 6 was cut out, and is held yet; the lock of chain 1 is mine, that of chain 0 another one's.
func sample() api.Mem {
	return api.Mem{
		Slots: []api.Slot{
			{Refs: 1, K: flow, Until: 5, In: true, Next: 5},
			{Refs: 2, K: near, Until: 6, In: true, Next: 1},
			{Refs: 3, K: far, Until: 5, In: true, Next: -1},
			{K: far, Until: 8, In: true, Next: 2},
			{Refs: 1, K: side, Until: 4, In: true, Next: -2},
			{K: side, Until: 2, Next: 4},
			{Refs: 1, K: flow, Until: 3, In: true, Next: 5},
		},
		Heads: []int{3, 2},
		Free:  []int{5, 3},
		Locks: []int{3, me},
		Now:   5,
	}
}

// midst: a frame of a Sweep of chain 1 of which no field is zero, whatever it does next; it stands at flow's slot, near's being ahead. Its K is of chain 0: nobody is to ask for it.
func midst(at int) api.Frame {
	return api.Frame{
		C:    api.Call{Kind: api.Sweep, K: far, Time: 8, Bucket: 1, Slot: 2},
		At:   at,
		Cur:  1,
		Prev: 2,
		Slot: 6,
		N:    6,
		Keys: []api.Key{{A: 1, B: 2}, {A: 3, B: 4}},
		E:    api.ErrText,
	}
}

// wholeCopy shares nothing with m.
func wholeCopy(m api.Mem) api.Mem {
	m.Slots, m.Heads = slices.Clone(m.Slots), slices.Clone(m.Heads)
	m.Free, m.Locks = slices.Clone(m.Free), slices.Clone(m.Locks)
	return m
}

// farOut: numbers that no list has a place for.
func farOut() []int { return []int{math.MinInt, math.MinInt + 1, math.MaxInt - 1, math.MaxInt} }

// someKeys: so many keys.
func someKeys(many int) []api.Key {
	l := make([]api.Key, many)
	for i := range l {
		l[i] = api.Key{A: i % 16, B: i / 16}
	}
	return l
}

// P8.1: each place

// change of memory and a frame.
type change func(m *api.Mem, f *api.Frame)

// one: a step from a sample and a frame in the midst of a Sweep that were changed so (given), and all that it changes (then).
type one struct {
	what  string
	at    int
	given change
	then  change
}

// all does one change after the other.
func all(l ...change) change {
	return func(m *api.Mem, f *api.Frame) {
		for _, c := range l {
			c(m, f)
		}
	}
}

func next(at int) change   { return func(m *api.Mem, f *api.Frame) { f.At = at } }
func cur(n int) change     { return func(m *api.Mem, f *api.Frame) { f.Cur = n } }
func prev(n int) change    { return func(m *api.Mem, f *api.Frame) { f.Prev = n } }
func slot(a int) change    { return func(m *api.Mem, f *api.Frame) { f.Slot = a } }
func many(n int) change    { return func(m *api.Mem, f *api.Frame) { f.N = n } }
func kind(n int) change    { return func(m *api.Mem, f *api.Frame) { f.C.Kind = n } }
func in(b int) change      { return func(m *api.Mem, f *api.Frame) { f.C.Bucket = b } }
func e(e api.Errno) change { return func(m *api.Mem, f *api.Frame) { f.E = e } }
func has(keys []api.Key) change {
	return func(m *api.Mem, f *api.Frame) { f.Keys = slices.Clone(keys) }
}

// gets: another key is behind Keys.
func gets(k api.Key) change {
	return func(m *api.Mem, f *api.Frame) { f.Keys = append(slices.Clone(f.Keys), k) }
}

func lockOf(b, task int) change { return func(m *api.Mem, f *api.Frame) { m.Locks[b] = task } }
func headOf(b, n int) change    { return func(m *api.Mem, f *api.Frame) { m.Heads[b] = n } }
func now(n int) change          { return func(m *api.Mem, f *api.Frame) { m.Now = n } }
func free(l ...int) change      { return func(m *api.Mem, f *api.Frame) { m.Free = l } }

// is: a slot is otherwise.
func is(a int, how func(s *api.Slot)) change {
	return func(m *api.Mem, f *api.Frame) { how(&m.Slots[a]) }
}

func refs(a, n int) change   { return is(a, func(s *api.Slot) { s.Refs = n }) }
func behind(a, n int) change { return is(a, func(s *api.Slot) { s.Next = n }) }
func until(a, n int) change  { return is(a, func(s *api.Slot) { s.Until = n }) }

// isDone: the call is, with OK.
func isDone() change { return func(m *api.Mem, f *api.Frame) { f.Done, f.E = true, api.OK } }

// oneChain: all is in one chain, of which the lock is mine.
func oneChain(m *api.Mem, f *api.Frame) {
	m.Heads, m.Locks, m.Slots[4].Next, f.C.Bucket = []int{2}, []int{me}, -1, 0
}

// isLate: nothing else is done.
func isLate() change { return next(6) }

func lockSteps() []one {
	return []one{
		{"nobody has it", 0, lockOf(1, -1), all(lockOf(1, me), next(1))},
		{"nobody has any", 0, all(lockOf(0, -1), lockOf(1, -1)), all(lockOf(1, me), next(1))},
		{"the task has another chain's", 0, all(lockOf(0, me), lockOf(1, -1)), all(lockOf(1, me), next(1))},
		{"nobody has it, of chain 0", 0, all(in(0), lockOf(0, -1)), all(lockOf(0, me), next(1))},
		{"nobody has it, nothing in its hands", 0, all(lockOf(1, -1), slot(-1)), all(lockOf(1, me), next(1))},
		{"the task has it", 0, all(), all()},
		{"the first task has it", 0, lockOf(1, 0), all()},
		{"another one has it", 0, lockOf(1, 1), all()},
		{"the last one has it", 0, lockOf(1, api.MaxTasks-1), all()},
		{"another one has it, nobody the other one", 0, all(lockOf(0, -1), lockOf(1, 1)), all()},
		{"another one has it, of chain 0", 0, all(in(0), lockOf(1, -1)), all()},
	}
}

func beginSteps() []one {
	return []one{
		{"a slot", 1, cur(0), all(prev(0), cur(2), next(2))},
		{"a slot, from the begin on", 1, all(prev(0), cur(0)), all(cur(2), next(2))},
		{"its own end", 1, headOf(1, -2), all(prev(0), cur(-2), next(2))},
		{"another end", 1, headOf(1, -1), all(prev(0), cur(-1), next(2))},
		{"the last slot", 1, headOf(1, 7), all(prev(0), cur(7), next(2))},
		{"of chain 0", 1, in(0), all(prev(0), cur(3), next(2))},
		{"the own end of chain 0", 1, all(in(0), headOf(0, -1)), all(prev(0), cur(-1), next(2))},
		{"without the lock", 1, lockOf(1, -1), all(prev(0), cur(2), next(2))},
		{"with nothing in its hands", 1, slot(-1), all(prev(0), cur(2), next(2))},
	}
}

// endSteps: a Sweep and a List see that they stand at no slot.
func endSteps() []one {
	return []one{
		{"its own end", 2, cur(-2), next(6)},
		{"another end", 2, cur(-1), next(6)},
		{"nothing", 2, cur(0), next(6)},
		{"its own end, nothing in its hands", 2, all(cur(-2), slot(-1)), next(6)},
		{"its own end, of an empty chain", 2, all(cur(-2), prev(0)), next(6)},
		{"its own end, without the lock", 2, all(cur(-2), lockOf(1, 4)), next(6)},
		{"its own end, as many keys as there can be", 2, all(cur(-2), has(someKeys(api.MaxCalls))), next(6)},
	}
}

func sweepSights() []one {
	return []one{
		{"Until is Now", 2, all(), next(4)},
		{"Until is Now, at the begin", 2, prev(0), next(4)},
		{"Until is below Now", 2, cur(5), next(4)},
		{"Until is one below Now", 2, now(6), next(4)},
		{"Until is far below Now", 2, now(api.MaxTime), next(4)},
		{"Until is one above Now", 2, now(4), next(3)},
		{"Until is far above Now", 2, now(0), next(3)},
		{"Until of another slot is above Now", 2, cur(2), next(3)},
		{"Until is the last one", 2, all(until(0, 2*api.MaxTime), now(api.MaxTime)), next(3)},
		{"Until is the last time", 2, all(until(0, api.MaxTime), now(api.MaxTime)), next(4)},
		{"Until is 0, Now too", 2, all(until(0, 0), now(0)), next(4)},
		{"Until is 1, Now is 0", 2, all(until(0, 1), now(0)), next(3)},
		{"over, and another chain's", 2, cur(3), next(4)},
		{"over, and in no chain", 2, cur(7), next(4)},
		{"over, and not In", 2, is(0, func(s *api.Slot) { s.In = false }), next(4)},
		{"over, and free", 2, cur(6), next(4)},
		{"it lasts, and is free", 2, cur(4), next(3)},
		{"over, and held by many", 2, refs(0, api.MaxRefs), next(4)},
		{"over, without the lock", 2, lockOf(1, 4), next(4)},
		{"over, N being as much as can be", 2, many(api.MaxTime), next(4)},
		{"over, nothing in its hands", 2, slot(-1), next(4)},
		{"over, of chain 0", 2, all(in(0), cur(3)), next(4)},
	}
}

// listSights: of a List it is all one whether a slot is over.
func listSights() []one {
	l := []one{
		{"its key", 2, all(), all(gets(flow), next(3))},
		{"its key, at the begin", 2, all(cur(2), prev(0)), all(gets(near), next(3))},
		{"its key, the last one", 2, cur(5), all(gets(side), next(3))},
		{"its key, which lasts", 2, now(0), all(gets(flow), next(3))},
		{"its key, which is over", 2, now(api.MaxTime), all(gets(flow), next(3))},
		{"its key, another chain's", 2, cur(3), all(gets(far), next(3))},
		{"its key, in no chain", 2, cur(7), all(gets(flow), next(3))},
		{"its key, not In", 2, is(0, func(s *api.Slot) { s.In = false }), all(gets(flow), next(3))},
		{"its key, free", 2, cur(4), all(gets(far), next(3))},
		{"its key, without the lock", 2, lockOf(1, 4), all(gets(flow), next(3))},
		{"its key, of chain 0", 2, all(in(0), cur(3)), all(gets(far), next(3))},
		{"a key that is among them", 2, has([]api.Key{flow}), all(gets(flow), next(3))},
		{"as many as there can be", 2, has(someKeys(api.MaxCalls)), next(3)},
	}
	for _, n := range []int{0, 1, 2, 3, api.MaxCalls - 2, api.MaxCalls - 1} {
		l = append(l, one{"behind some", 2, has(someKeys(n)), all(gets(flow), next(3))})
	}
	return l
}

func passSteps() []one {
	return []one{
		{"a slot behind", 3, all(cur(2), prev(0)), all(prev(2), cur(1), next(2))},
		{"another slot behind", 3, all(), all(prev(1), cur(5), next(2))},
		{"its own end behind", 3, all(cur(5), prev(1)), all(prev(5), cur(-2), next(2))},
		{"another end behind", 3, cur(3), all(prev(3), cur(-1), next(2))},
		{"behind a free one", 3, cur(4), all(prev(4), cur(2), next(2))},
		{"behind the last one", 3, cur(7), all(prev(7), cur(5), next(2))},
		{"nothing behind", 3, behind(0, 0), all(prev(1), cur(0), next(2))},
		{"itself behind", 3, behind(0, 1), all(prev(1), cur(1), next(2))},
		{"without the lock", 3, lockOf(1, -1), all(prev(1), cur(5), next(2))},
		{"nothing in its hands", 3, slot(-1), all(prev(1), cur(5), next(2))},
	}
}

func cutSteps() []one {
	then := func(a, n int) change { return all(slot(a), cur(n), next(5)) }
	return []one{
		{"behind another one, ahead of another", 4, all(), all(behind(1, 5), then(0, 5))},
		{"behind another one, the last one", 4, all(cur(5), prev(1)), all(behind(0, -2), then(4, -2))},
		{"at the begin, ahead of another", 4, all(cur(2), prev(0)), all(headOf(1, 1), then(1, 1))},
		{"at the begin, the only one", 4, all(headOf(1, 5), cur(5), prev(0)), all(headOf(1, -2), then(4, -2))},
		{"at the begin of chain 0, the only one", 4, all(in(0), cur(3), prev(0)), all(headOf(0, -1), then(2, -1))},
		{"at the begin of chain 0, ahead of another", 4, all(in(0), cur(3), prev(0), behind(2, 7)), all(headOf(0, 7), then(2, 7))},
		{"at the begin of one chain of one", 4, all(oneChain, cur(2), prev(0)), all(headOf(0, 1), then(1, 1))},
		{"behind another one of one chain of one", 4, oneChain, all(behind(1, 5), then(0, 5))},
		{"nothing in its hands", 4, slot(-1), all(behind(1, 5), then(0, 5))},
		{"held by more than one", 4, refs(0, 4), all(behind(1, 5), then(0, 5))},
		{"what lasts", 4, now(0), all(behind(1, 5), then(0, 5))},
		{"without the lock", 4, lockOf(1, 4), all(behind(1, 5), then(0, 5))},
		{"what is free", 4, all(cur(4), prev(0)), all(headOf(1, 2), then(3, 2))},
		{"nothing behind", 4, behind(0, 0), all(behind(1, 0), then(0, 0))},
		{"what is not ahead of it", 4, all(cur(5), prev(7)), all(behind(6, -2), then(4, -2))},
		{"not ahead of it, but the begin", 4, prev(0), all(headOf(1, 5), then(0, 5))},
		{"itself ahead", 4, prev(1), then(0, 5)},
		{"itself behind", 4, behind(0, 1), all(behind(1, 1), then(0, 1))},
	}
}

func putSteps() []one {
	then := all(slot(-1), many(7), next(2))
	return []one{
		{"held once", 5, all(), all(refs(6, 0), free(5, 3, 6), then)},
		{"held once, the only one that is free then", 5, all(free(), refs(3, 1), refs(5, 1)), all(refs(6, 0), free(6), then)},
		{"held twice", 5, refs(6, 2), all(refs(6, 1), then)},
		{"held by some", 5, slot(2), all(refs(2, 2), then)},
		{"held by most", 5, refs(6, api.MaxRefs), all(refs(6, api.MaxRefs-1), then)},
		{"held by nobody", 5, slot(3), then},
		{"the first slot", 5, slot(0), all(refs(0, 0), free(5, 3, 0), then)},
		{"standing at its end", 5, all(cur(-2), refs(6, 2)), all(refs(6, 1), then)},
		{"standing at the begin", 5, all(prev(0), refs(6, 2)), all(refs(6, 1), then)},
		{"the lock being another one's", 5, all(lockOf(1, 4), refs(6, 2)), all(refs(6, 1), then)},
		{"the first one", 5, all(many(0), refs(6, 2)), all(refs(6, 1), then, many(1))},
		{"N two below the most", 5, many(api.MaxTime - 2), all(refs(6, 0), free(5, 3, 6), then, many(api.MaxTime-1))},
		{"N one below the most", 5, many(api.MaxTime - 1), all(refs(6, 0), free(5, 3, 6), then, many(api.MaxTime))},
		{"N at the most", 5, many(api.MaxTime), all(refs(6, 0), free(5, 3, 6), then, many(api.MaxTime))},
		{"N at the most, held twice", 5, all(many(api.MaxTime), refs(6, 2)), all(refs(6, 1), then, many(api.MaxTime))},
	}
}

func unlockSteps() []one {
	l := []one{
		{"another one's stays", 6, lockOf(1, 1), isDone()},
		{"the first task's stays", 6, lockOf(1, 0), isDone()},
		{"nobody's stays", 6, lockOf(1, -1), isDone()},
		{"its own of another chain stays", 6, all(lockOf(0, me), lockOf(1, 4)), isDone()},
		{"its own of two chains", 6, lockOf(0, me), all(lockOf(1, -1), isDone())},
		{"its own of chain 0", 6, all(in(0), lockOf(0, me)), all(lockOf(0, -1), isDone())},
		{"another one's of chain 0 stays", 6, in(0), isDone()},
		{"nothing in its hands", 6, slot(-1), all(lockOf(1, -1), isDone())},
		{"no keys", 6, has(nil), all(lockOf(1, -1), isDone())},
		{"as many keys as there can be", 6, has(someKeys(api.MaxCalls)), all(lockOf(1, -1), isDone())},
		{"at its end", 6, all(cur(-2), many(0)), all(lockOf(1, -1), isDone())},
	}
	for x := api.OK; x <= api.ErrLate; x++ {
		l = append(l, one{"E is OK, whatever it was", 6, e(x), all(lockOf(1, -1), isDone())})
	}
	return l
}

// lateSteps: what is not to be done, of a Sweep and of a List.
func lateSteps() []one {
	var l []one
	for at := 3; at <= 4; at++ {
		for _, n := range []int{-2, -1, 0} {
			l = append(l, one{"stands at no slot", at, cur(n), isLate()}, one{"stands at no slot, nor has one, nor the lock", at, all(cur(n), prev(0), slot(-1), lockOf(1, 4)), isLate()})
		}
	}
	for at := 7; at <= 9; at++ {
		l = append(l, one{"no such place", at, all(), isLate()}, one{"no such place, no slot", at, all(cur(-2), slot(-1)), isLate()})
	}
	for x := api.OK; x <= api.ErrLate; x++ {
		l = append(l, one{"none in its hands, E stays", 5, all(slot(-1), e(x)), isLate()}, one{"stands at no slot, E stays", 3, all(cur(-2), e(x)), isLate()})
		l = append(l, one{"stands at no slot, E stays", 4, all(cur(-2), e(x)), isLate()}, one{"no such place, E stays", 7, e(x), isLate()})
	}
	l = append(l, one{"none in its hands, at its end", 5, all(slot(-1), cur(-2)), isLate()})
	return append(l, one{"none in its hands, N at the most", 5, all(slot(-1), many(api.MaxTime)), isLate()})
}

// ofKind: the same steps of a call of that kind.
func ofKind(n int, l []one) []one {
	out := slices.Clone(l)
	for i, x := range out {
		out[i].given = all(kind(n), x.given)
	}
	return out
}

// ofBoth: the same steps of a Sweep, and of a List.
func ofBoth(l []one) []one { return slices.Concat(ofKind(api.Sweep, l), ofKind(api.List, l)) }

// takenSteps: steps of which chapters 2 and 4 take the memory and the frame.
func takenSteps() []one {
	both := slices.Concat(lockSteps(), beginSteps(), endSteps(), passSteps(), cutSteps(), putSteps(), unlockSteps(), lateSteps())
	return slices.Concat(ofBoth(both), ofKind(api.Sweep, sweepSights()), ofKind(api.List, listSights()))
}

// noSteps: what is out of bounds.
func noSteps() []one {
	var l []one
	for _, at := range append(farOut(), -2, -1, 10, 11) {
		l = append(l, one{"no such place", at, all(), isLate()})
	}
	for _, n := range append(farOut(), -3, 8) {
		for at := 2; at <= 4; at++ {
			l = append(l, one{"stands at what there is not", at, cur(n), isLate()})
		}
	}
	for _, n := range append(farOut(), -2, -1, 8) {
		l = append(l, one{"what there is not is ahead", 4, prev(n), isLate()})
	}
	for _, a := range append(farOut(), -2, 7) {
		l = append(l, one{"has what there is not", 5, slot(a), isLate()})
	}
	put := all(refs(6, 0), free(5, 3, 6), slot(-1), next(2))
	for _, n := range []int{api.MaxTime + 1, math.MaxInt - 1, math.MaxInt} {
		l = append(l, one{"N above the most", 5, many(n), all(put, many(api.MaxTime))})
	}
	for _, n := range []int{-2, -1, math.MinInt} {
		l = append(l, one{"N below 0", 5, many(n), all(put, many(n+1))})
	}
	l = ofBoth(l)
	for _, n := range []int{api.MaxCalls + 1, 2 * api.MaxCalls} {
		l = append(l, one{"more keys than there can be", 2, all(kind(api.List), has(someKeys(n))), next(3)})
	}
	for _, n := range []int{api.Look, api.Add, api.Drop, api.Leave, 0, 7, -1, math.MinInt} {
		l = append(l, one{"neither a Sweep nor a List", 2, kind(n), next(3)})
	}
	return l
}

func TestStep(t *testing.T) {
	for _, x := range slices.Concat(takenSteps(), noSteps()) {
		m, f := sample(), midst(x.at)
		x.given(&m, &f)
		wantM, wantF := wholeCopy(m), f
		wantF.Keys = slices.Clone(f.Keys)
		x.then(&wantM, &wantF)
		if got := Step(&m, f, me); !reflect.DeepEqual(got, wantF) || !mem.Same(m, wantM) {
			t.Errorf("at %d of %d, %s:\n%+v, want\n%+v;\nmemory %+v, want\n%+v", x.at, f.C.Kind, x.what, got, wantF, m, wantM)
		}
	}
}

// What takenSteps has is what is promised: chapters 2 and 4 take it.
func TestStepIsAskedForWhatIsTaken(t *testing.T) {
	for _, x := range takenSteps() {
		m, f := sample(), midst(x.at)
		x.given(&m, &f)
		if e := mem.Check(m); e != api.OK {
			t.Errorf("at %d, %s: chapter 2 doesn't take %+v: %v", x.at, x.what, m, e)
		}
		if e := frame.Check(m, f); e != api.OK {
			t.Errorf("at %d, %s: chapter 4 doesn't take %+v: %v", x.at, x.what, f, e)
		}
	}
}

// Each task can have the lock, and gives back none but its own.
func TestStepOfEachTask(t *testing.T) {
	for task := range api.MaxTasks {
		for had := -1; had < api.MaxTasks; had++ {
			m, want := sample(), sample()
			m.Locks[1], want.Locks[1] = had, had
			at := 0
			if had == -1 {
				want.Locks[1], at = task, 1
			}
			if f := Step(&m, midst(0), task); f.At != at || !mem.Same(m, want) {
				t.Errorf("task %d, a lock of %d: at %d, %+v, want %d, %+v", task, had, f.At, m.Locks, at, want.Locks)
			}
			m.Locks[1], want.Locks[1] = had, had
			if had == task {
				want.Locks[1] = -1
			}
			if f := Step(&m, midst(6), task); !f.Done || !mem.Same(m, want) {
				t.Errorf("task %d gives back a lock of %d: %+v, want %+v", task, had, m.Locks, want.Locks)
			}
		}
	}
}

// The chain of each call is that of its Bucket, of as many chains as there can be.
func TestStepInEachChain(t *testing.T) {
	keys := []api.Key{{A: 4, B: 0}, {A: 0, B: 3}, {A: 2, B: 0}, {A: 1, B: 0}}
	for b, k := range keys {
		m := mapping(t, 5, api.MaxBuckets, flows(1, keys...)...)
		m.Now = 1
		want := wholeCopy(m)
		f := Step(&m, newSweep(b), me)
		want.Locks[b] = me
		if f.At != 1 || !mem.Same(m, want) {
			t.Errorf("chain %d, locked: %+v, want %+v", b, m, want)
		}
		f = Step(&m, Step(&m, Step(&m, f, me), me), me)
		want.Heads[b] = -1 - b
		if f.At != 5 || f.Slot != b || f.Cur != -1-b || !mem.Same(m, want) {
			t.Errorf("chain %d, cut out: %+v in %+v, want %+v", b, f, m, want)
		}
		f = Step(&m, f, me)
		want.Slots[b].Refs, want.Free = 0, append(want.Free, b)
		if f.At != 2 || f.N != 1 || !mem.Same(m, want) {
			t.Errorf("chain %d, put: %+v in %+v, want %+v", b, f, m, want)
		}
		f = Step(&m, Step(&m, f, me), me)
		want.Locks[b] = -1
		if !f.Done || f.E != api.OK || f.Slot != -1 || !mem.Same(m, want) {
			t.Errorf("chain %d, done: %+v in %+v, want %+v", b, f, m, want)
		}
		m = mapping(t, 5, api.MaxBuckets, flows(1, keys...)...)
		if f, _ := alone(t, &m, newList(b)); !slices.Equal(f.Keys, []api.Key{k}) {
			t.Errorf("chain %d, listed: %v, want %v", b, f.Keys, k)
		}
	}
}

// rule: the chapter's words for memory of two chains, a case a line.
func rule(m api.Mem, f api.Frame, task int) (api.Mem, api.Frame) {
	m = wholeCopy(m)
	at := func(places ...int) bool { return slices.Contains(places, f.At) }
	b := f.C.Bucket
	standing := 1 <= f.Cur && f.Cur <= len(m.Slots)
	var here api.Slot
	if standing {
		here = m.Slots[f.Cur-1]
	}
	switch {
	case !at(0, 1, 2, 3, 4, 5, 6), at(2, 3, 4) && !standing, at(5) && f.Slot == -1:
		f.At = 6
	case at(0) && m.Locks[b] == -1:
		m.Locks[b], f.At = task, 1
	case at(1):
		f.Prev, f.Cur, f.At = 0, m.Heads[b], 2
	case at(2) && f.C.Kind == api.List && len(f.Keys) < 100:
		f.Keys, f.At = append(slices.Clone(f.Keys), here.K), 3
	case at(2) && f.C.Kind == api.Sweep && here.Until <= m.Now:
		f.At = 4
	case at(2):
		f.At = 3
	case at(3):
		f.Prev, f.Cur, f.At = f.Cur, here.Next, 2
	case at(4) && f.Prev == 0:
		m.Heads[b], f.Slot, f.Cur, f.At = here.Next, f.Cur-1, here.Next, 5
	case at(4):
		m.Slots[f.Prev-1].Next, f.Slot, f.Cur, f.At = here.Next, f.Cur-1, here.Next, 5
	case at(5):
		had := m.Slots[f.Slot].Refs
		m.Slots[f.Slot].Refs = max(had-1, 0)
		if had == 1 {
			m.Free = append(m.Free, f.Slot)
		}
		f.Slot, f.N, f.At = -1, min(f.N+1, 1000000), 2
	case at(6) && m.Locks[b] == task:
		m.Locks[b], f.E, f.Done = -1, api.OK, true
	case at(6):
		f.E, f.Done = api.OK, true
	}
	return m, f
}

// frames: all places of a Sweep and of a List in memory of two slots and two chains.
func frames(do func(f api.Frame)) {
	keys := [3][]api.Key{nil, someKeys(99), someKeys(100)}
	for n := range 10 * 5 * 3 * 3 {
		for b := range 2 {
			f := newSweep(b)
			f.At, f.Cur, f.Slot, f.Prev, f.E = n%10, n/10%5-2, n/50%3-1, n/150, api.ErrForm
			f.N = [3]int{4, 999999, 1000000}[f.Prev]
			do(f)
			f.C.Kind, f.Keys = api.List, keys[(n+b)%3]
			do(f)
		}
	}
}

// memories: memory of two slots and two chains in which one slot is this, and the locks are had by whoever can have them.
func memories(s api.Slot, do func(m api.Mem)) {
	other := api.Slot{Refs: 1, K: near, Until: 4, In: true, Next: -2}
	for _, slots := range [][]api.Slot{{s, other}, {other, s}, {s, s}} {
		for _, locks := range [][]int{{-1, -1}, {me, me}, {1, 1}, {-1, me}, {me, -1}, {1, -1}, {-1, 1}} {
			m := api.Mem{Slots: slots, Heads: []int{-1, 2}, Locks: locks, Now: 3}
			for a := range slots {
				if slots[a].Refs == 0 {
					m.Free = append(m.Free, a)
				}
			}
			do(m)
		}
	}
}

// slotsOfAllKinds: what a slot of memory of two slots and two chains can be, at the time 3.
func slotsOfAllKinds(do func(s api.Slot)) {
	for _, refs := range []int{0, 1, 2} {
		for n := range 3 * 5 {
			do(api.Slot{Refs: refs, K: flow, Until: n%3 + 2, In: n%2 == 0, Next: n/3 - 2})
		}
	}
}

func TestStepOfAllPlacesInSmallMemory(t *testing.T) {
	slotsOfAllKinds(func(s api.Slot) {
		memories(s, func(m api.Mem) {
			frames(func(f api.Frame) {
				wantM, wantF := rule(m, f, me)
				n := wholeCopy(m)
				if got := Step(&n, f, me); !sameFrame(got, wantF) || !mem.Same(n, wantM) {
					t.Fatalf("Step(%+v, %+v):\n%+v, want\n%+v;\nmemory %+v, want\n%+v", m, f, got, wantF, n, wantM)
				}
			})
		})
	})
}

// sameFrame: are all fields alike? (Other than reflect.DeepEqual it is quick with many keys.)
func sameFrame(a, b api.Frame) bool {
	keys := slices.Equal(a.Keys, b.Keys)
	a.Keys, b.Keys = nil, nil
	return keys && reflect.DeepEqual(a, b)
}

// P8.1, P8.2: a Sweep and a List that go on alone

func newSweep(b int) api.Frame { return frame.New(api.Call{Kind: api.Sweep, Bucket: b}) }
func newList(b int) api.Frame  { return frame.New(api.Call{Kind: api.List, Bucket: b}) }

// alone: a call that goes on alone, and at how many steps it is done.
func alone(t *testing.T, m *api.Mem, f api.Frame) (api.Frame, int) {
	t.Helper()
	for n := range 100 {
		if f = Step(m, f, me); f.Done {
			return f, n + 1
		}
	}
	t.Fatalf("a call that goes on alone isn't done: %+v in %+v", f, *m)
	return f, 0
}

// till: a flow of a key until a time.
func till(k api.Key, until int) api.Flow { return api.Flow{K: k, Until: until} }

// flows of these keys, all until one time.
func flows(until int, keys ...api.Key) []api.Flow {
	var l []api.Flow
	for _, k := range keys {
		l = append(l, till(k, until))
	}
	return l
}

// mapping: memory of so many slots and chains in which these flows are mapped, each ahead of those before.
func mapping(t *testing.T, many, buckets int, flows ...api.Flow) api.Mem {
	t.Helper()
	m, e := mem.New(many, buckets)
	for _, x := range flows {
		var a int
		if e == api.OK {
			m, a, e = mem.Taken(m, x.K, x.Until)
		}
		if e == api.OK {
			m, e = chain.Linked(m, a)
		}
	}
	if e != api.OK {
		t.Fatal(e)
	}
	return m
}

// byCalls: the memory that chapters 2 and 3's calls make of what a Sweep of chain b is said to do, and how many flows it is that are over.
func byCalls(t *testing.T, m api.Mem, b int) (api.Mem, int) {
	t.Helper()
	l, e := chain.Slots(m, b)
	n := 0
	for _, a := range l {
		if m.Slots[a].Until > m.Now {
			continue
		}
		n++
		if e == api.OK {
			m, _, e = chain.Without(m, m.Slots[a].K)
		}
		if e == api.OK {
			m, e = mem.Let(m, a)
		}
	}
	if e != api.OK {
		t.Fatal(e)
	}
	return m, n
}

// keysOf: the keys of chain b, from its begin on.
func keysOf(t *testing.T, m api.Mem, b int) []api.Key {
	t.Helper()
	l, e := chain.Slots(m, b)
	if e != api.OK {
		t.Fatal(e)
	}
	var keys []api.Key
	for _, a := range l {
		keys = append(keys, m.Slots[a].K)
	}
	return keys
}

// aScene of calls that go on alone: at the time 5; how many flows of chain 1 are over, and which keys it has.
type aScene struct {
	what  string
	many  int
	flows []api.Flow
	n     int
	keys  []api.Key
}

func aloneScenes() []aScene {
	return []aScene{
		{"without any slot", 0, nil, 0, nil},
		{"an empty chain", 3, nil, 0, nil},
		{"an empty chain beside another", 3, flows(1, far), 0, nil},
		{"the only one lasts", 1, flows(6, flow), 0, []api.Key{flow}},
		{"the only one is over just now", 1, flows(5, flow), 1, []api.Key{flow}},
		{"the only one is over", 1, flows(4, flow), 1, []api.Key{flow}},
		{"the only one is over since the first time", 2, flows(0, flow), 1, []api.Key{flow}},
		{"none is over", 3, flows(6, flow, near, side), 0, []api.Key{side, near, flow}},
		{"all are over just now", 3, flows(5, flow, near, side), 3, []api.Key{side, near, flow}},
		{"all are over", 4, flows(1, flow, near, side, far), 3, []api.Key{side, near, flow}},
		{"the first one is over", 3, []api.Flow{till(flow, 6), till(near, 7), till(side, 5)}, 1, []api.Key{side, near, flow}},
		{"the midst one is over", 3, []api.Flow{till(flow, 6), till(near, 5), till(side, 7)}, 1, []api.Key{side, near, flow}},
		{"the last one is over", 3, []api.Flow{till(flow, 5), till(near, 6), till(side, 7)}, 1, []api.Key{side, near, flow}},
		{"the first one lasts", 3, []api.Flow{till(flow, 3), till(near, 5), till(side, 6)}, 2, []api.Key{side, near, flow}},
		{"the midst one lasts", 3, []api.Flow{till(flow, 3), till(near, 6), till(side, 5)}, 2, []api.Key{side, near, flow}},
		{"the last one lasts", 3, []api.Flow{till(flow, 6), till(near, 5), till(side, 2)}, 2, []api.Key{side, near, flow}},
		{"none is over, but in another chain", 4, []api.Flow{till(far, 5), till(flow, 6)}, 0, []api.Key{flow}},
		{"one until the last time of all", 4, []api.Flow{till(far, 6), till(flow, 2*api.MaxTime), till(near, 5)}, 1, []api.Key{near, flow}},
	}
}

func TestSweepThatGoesOnAlone(t *testing.T) {
	for _, x := range aloneScenes() {
		m := mapping(t, x.many, 2, x.flows...)
		m.Now = 5
		want, n := byCalls(t, m, 1)
		steps := 4 + 2*(len(x.keys)-x.n) + 3*x.n
		f, took := alone(t, &m, newSweep(1))
		if f.E != api.OK || f.N != x.n || n != x.n || f.Slot != -1 || len(f.Keys) != 0 || took != steps {
			t.Errorf("%s: %+v at %d steps (by calls %d are over); want %d at %d", x.what, f, took, n, x.n, steps)
		}
		if !mem.Same(m, want) {
			t.Errorf("%s: memory is %+v, want %+v", x.what, m, want)
		}
		want = wholeCopy(m)
		if f, _ := alone(t, &m, newSweep(1)); f.E != api.OK || f.N != 0 || !mem.Same(m, want) {
			t.Errorf("%s: another Sweep finds something: %+v in %+v", x.what, f, m)
		}
	}
}

func TestListThatGoesOnAlone(t *testing.T) {
	for _, x := range aloneScenes() {
		m := mapping(t, x.many, 2, x.flows...)
		m.Now = 5
		want := wholeCopy(m)
		f, took := alone(t, &m, newList(1))
		if f.E != api.OK || f.N != 0 || f.Slot != -1 || !slices.Equal(f.Keys, x.keys) || took != 4+2*len(x.keys) {
			t.Errorf("%s: %+v at %d steps, want %v", x.what, f, took, x.keys)
		}
		if !mem.Same(m, want) {
			t.Errorf("%s: memory is %+v, want %+v", x.what, m, want)
		}
	}
}

// A slot that somebody else holds is cut out, and is not free.
func TestSweepOfWhatIsHeld(t *testing.T) {
	m := mapping(t, 3, 2, flows(5, flow, near)...)
	m.Now = 5
	m, _ = mem.Held(m, 0)
	m, _ = mem.Held(m, 0)
	want := wholeCopy(m)
	want.Heads[1], want.Slots[1].Refs, want.Slots[0].Refs, want.Free = -2, 0, 2, []int{2, 1}
	if f, _ := alone(t, &m, newSweep(1)); f.E != api.OK || f.N != 2 || f.Slot != -1 || !mem.Same(m, want) {
		t.Errorf("%+v in %+v, want %+v", f, m, want)
	}
}

// As time goes on, more and more is over; what lasts stays, and is listed.
func TestSweepOfAsManyAsThereCanBe(t *testing.T) {
	for buckets := 1; buckets <= api.MaxBuckets; buckets++ {
		var l []api.Flow
		for a := range api.MaxSlots {
			l = append(l, till(api.Key{A: a, B: 3 * a % 7}, 1+5*a%api.MaxSlots))
		}
		m := mapping(t, api.MaxSlots, buckets, l...)
		for m.Now = range api.MaxSlots + 1 {
			for b := range buckets {
				keys := keysOf(t, m, b)
				if f, _ := alone(t, &m, newList(b)); f.E != api.OK || !slices.Equal(f.Keys, keys) {
					t.Errorf("%d chains, at %d: a List of %d: %v, want %v", buckets, m.Now, b, f.Keys, keys)
				}
				want, n := byCalls(t, m, b)
				if f, _ := alone(t, &m, newSweep(b)); f.E != api.OK || f.N != n || !mem.Same(m, want) {
					t.Errorf("%d chains, at %d: a Sweep of %d: %+v, want %d; %+v, want %+v", buckets, m.Now, b, f, n, m, want)
				}
			}
			if l, e := chain.Flows(m); e != api.OK || len(l) != api.MaxSlots-m.Now || len(m.Free) != m.Now {
				t.Errorf("%d chains, at %d: mapped is %v, %v, free %v", buckets, m.Now, l, e, m.Free)
			}
		}
	}
}

// A call waits for a lock that another one has, however long, and changes nothing meanwhile.
func TestSweepAndListWait(t *testing.T) {
	for _, f := range []api.Frame{newSweep(0), newSweep(1), newList(0), newList(1)} {
		m := mapping(t, 3, 2, flows(5, near, flow, far)...)
		m.Now = 5
		m.Locks = []int{3, 3}
		want := wholeCopy(m)
		for range 50 {
			if g := Step(&m, f, me); !reflect.DeepEqual(g, f) || !mem.Same(m, want) {
				t.Fatalf("%+v: %+v in %+v", f, g, m)
			}
		}
		m.Locks = []int{-1, -1}
		if f, _ = alone(t, &m, f); f.E != api.OK || f.N+len(f.Keys) != 1+f.C.Bucket || !slices.Equal(m.Locks, []int{-1, -1}) {
			t.Errorf("%+v, locks %v", f, m.Locks)
		}
	}
}

// Who comes to a place too late gives the lock back, and is done so; what is in its hands stays there.
func TestWhoIsLateGivesTheLockBack(t *testing.T) {
	for _, k := range []int{api.Sweep, api.List} {
		for _, x := range [][3]int{{3, -2, 6}, {3, 0, -1}, {4, -2, 6}, {4, -1, -1}, {5, 1, -1}, {7, 1, 6}, {8, 1, -1}, {9, 1, 6}} {
			m, f := sample(), midst(x[0])
			f.C.Kind, f.Cur, f.Slot = k, x[1], x[2]
			want, wantF := sample(), f
			want.Locks[1] = -1
			wantF.At, wantF.E, wantF.Done = 6, api.OK, true
			if g, steps := alone(t, &m, f); !reflect.DeepEqual(g, wantF) || steps != 2 || !mem.Same(m, want) {
				t.Errorf("at %d: %+v, %d steps, %+v", x[0], g, steps, m)
			}
		}
	}
}

// P1, P2 of DOC.md

// wild: memory as it may not be, of so many slots, chains and locks, in which this number stands wherever one can.
func wild(many, buckets, locks, n int) api.Mem {
	m := api.Mem{Free: []int{n, n}, Now: n}
	for range many {
		m.Slots = append(m.Slots, api.Slot{Refs: n, K: api.Key{A: n, B: n}, Until: n, In: n > 0, Next: n})
	}
	for range buckets {
		m.Heads = append(m.Heads, n)
	}
	for range locks {
		m.Locks = append(m.Locks, n)
	}
	return m
}

// wildFrames: frames of all kinds and places, whatever they stand at.
func wildFrames(do func(f api.Frame)) {
	numbers := append(farOut(), -3, -1, 0, 1, 3, 7)
	for _, kind := range []int{api.Sweep, api.List, api.Drop, 0, math.MinInt} {
		for _, at := range append(farOut(), -1, 0, 1, 2, 3, 4, 5, 6, 7, 8, 9, 10) {
			for _, n := range numbers {
				for _, a := range numbers {
					do(api.Frame{C: api.Call{Kind: kind, K: api.Key{A: a, B: n}, Time: n, Bucket: a}, At: at, Cur: n, Prev: a, Slot: a, N: n})
					do(api.Frame{C: api.Call{Kind: kind, K: flow, Time: n, Bucket: 1}, At: at, Cur: n, Prev: a, Slot: n, N: a})
				}
			}
		}
	}
}

func TestStepTakesAnything(t *testing.T) {
	var l []api.Mem
	for _, n := range append(farOut(), -1, 0, 1, 1000) {
		l = append(l, api.Mem{}, wild(0, 2, 2, n), wild(3, 0, 2, n), wild(3, 2, 0, n), wild(3, 2, 2, n), wild(40, 30, 20, n))
	}
	tasks := append(farOut(), -1, 0, 1, 5)
	i := 0
	wildFrames(func(f api.Frame) {
		for _, m := range l {
			i++
			task := tasks[i%len(tasks)]
			one, two := wholeCopy(m), wholeCopy(m)
			f1, f2 := Step(&one, f, task), Step(&two, f, task)
			if !sameFrame(f1, f2) || !mem.Same(one, two) {
				t.Fatalf("Step(%+v, %+v, %d) twice: %+v, then %+v", m, f, task, f1, f2)
			}
			if len(one.Slots) != len(m.Slots) || len(one.Heads) != len(m.Heads) || len(one.Locks) != len(m.Locks) || one.Now != m.Now || f1.C != f.C {
				t.Fatalf("Step(%+v, %+v, %d) changes what is none of its: %+v", m, f, task, one)
			}
		}
	})
}

func TestStepWithoutMemory(t *testing.T) {
	wildFrames(func(f api.Frame) {
		if got := Step(nil, f, me); !sameFrame(got, f) {
			t.Fatalf("Step(nil, %+v): %+v", f, got)
		}
	})
}

// Where there is no such chain, none is locked, and none is changed.
func TestStepWithoutChains(t *testing.T) {
	for _, b := range append(farOut(), -1, 2) {
		for at, then := range map[int]change{0: all(), 1: isLate(), 4: isLate(), 6: isDone()} {
			for _, k := range []int{api.Sweep, api.List} {
				m, f := sample(), midst(at)
				f.C.Kind, f.C.Bucket = k, b
				wantM, wantF := wholeCopy(m), f
				then(&wantM, &wantF)
				if got := Step(&m, f, me); !reflect.DeepEqual(got, wantF) || !mem.Same(m, wantM) {
					t.Errorf("at %d, chain %d: %+v, want %+v", at, b, got, wantF)
				}
			}
		}
	}
}

// A call that is done is done: no step of it follows.
func TestStepOfWhatIsDone(t *testing.T) {
	for _, k := range []int{api.Sweep, api.List} {
		for at := range 10 {
			m, f := sample(), midst(at)
			f.C.Kind, f.Done = k, true
			if got := Step(&m, f, me); !reflect.DeepEqual(got, f) || !mem.Same(m, sample()) {
				t.Errorf("done at %d: %+v, %+v", at, got, m)
			}
		}
	}
}

// All that stands behind a list is somebody else's: steps don't write there, though they change what is in the list.
func TestStepLeavesSpareRoomAlone(t *testing.T) {
	marks := []int{77, 78, 79}
	for at := range 10 {
		slots := append(sample().Slots, api.Slot{Until: 77})
		heads, locks := append([]int{3, 2}, marks...), append([]int{-1, -1}, marks...)
		free := append([]int{5, 3}, marks...)
		m := api.Mem{Slots: slots[:7], Heads: heads[:2], Free: free[:2], Locks: locks[:2], Now: 5}
		f := midst(at)
		for range 16 {
			f = Step(&m, f, me)
		}
		if slots[7] != (api.Slot{Until: 77}) || !slices.Equal(heads[2:], marks) || !slices.Equal(locks[2:], marks) || !slices.Equal(free, []int{5, 3, 77, 78, 79}) {
			t.Errorf("from %d on: room that is not the memory's is changed: %v, %v, %v, %v", at, slots, heads, locks, free)
		}
		if at <= 5 && len(m.Free) == 2 || !f.Done {
			t.Errorf("from %d on: nothing was put: %+v, %+v", at, f, m)
		}
	}
}

// A List writes neither into the keys that are handed in nor behind them.
func TestListLeavesKeysAlone(t *testing.T) {
	for n := range 4 {
		for at := range 10 {
			keys := someKeys(8)
			m, f := sample(), midst(at)
			f.C.Kind, f.Keys, m.Locks[1] = api.List, keys[:n], -1
			for range 16 {
				f = Step(&m, f, me)
			}
			if !slices.Equal(keys, someKeys(8)) {
				t.Errorf("%d keys, from %d on: keys that were handed in are changed: %v", n, at, keys)
			}
			if at <= 3 && len(f.Keys) <= n || !f.Done {
				t.Errorf("%d keys, from %d on: no key was noted: %+v", n, at, f)
			}
		}
	}
}

// Two Lists that go on from one frame don't write into each other's keys.
func TestListsFromOneFrame(t *testing.T) {
	m := sample()
	f := midst(2)
	f.C.Kind, f.Keys = api.List, nil
	for range 5 {
		f.Cur, f.At = 1, 2
		g := f
		g.Cur = 5
		f = Step(&m, f, me)
		want := slices.Clone(f.Keys)
		g = Step(&m, g, me)
		if !slices.Equal(f.Keys, want) || f.Keys[len(f.Keys)-1] != flow || g.Keys[len(g.Keys)-1] != side {
			t.Fatalf("%v, then %v (and %v)", want, f.Keys, g.Keys)
		}
	}
}

// What one Step was given is not seen by the next one.
func TestStepKeepsNothing(t *testing.T) {
	for at := range 10 {
		m, n := sample(), sample()
		first := Step(&m, midst(at), me)
		other := wild(3, 2, 2, -1)
		Step(&other, midst(9-at), 4)
		m.Slots[0], m.Heads[1], m.Free = api.Slot{}, -1, nil
		if second := Step(&n, midst(at), me); !reflect.DeepEqual(first, second) {
			t.Errorf("at %d: %+v, then %+v", at, first, second)
		}
	}
}
