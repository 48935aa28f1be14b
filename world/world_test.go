package world

import (
	"fmt"
	"math"
	"slices"
	"testing"

	"turnstile/add"
	"turnstile/api"
	"turnstile/drop"
	"turnstile/frame"
	"turnstile/look"
	"turnstile/mem"
	"turnstile/sweep"
)

// Keys of two chains: flow, near and side are of chain 1, far is of chain 0.
var (
	flow = api.Key{A: 1, B: 2}
	near = api.Key{A: 0, B: 1}
	side = api.Key{A: 3, B: 0}
	far  = api.Key{A: 2, B: 0}
)

// Tasks of the sample: idle holds some slots, adder and looker are in the midst of a call, fresh did nothing yet.
const (
	idle = iota
	adder
	looker
	fresh
)

// sample: chain 1 has slot 1 (near) and slot 0 (flow), chain 0 has slot 2 (far); 5 and 3 are free, slot 4 is the adder's, who has the lock of chain 1; the looker holds slot 1, and asks next whether that is near's.
func sample() api.World {
	return api.World{
		M: api.Mem{
			Slots: []api.Slot{
				{Refs: 3, K: flow, Until: 6, In: true, Next: -2},
				{Refs: 3, K: near, Until: 9, In: true, Next: 1},
				{Refs: 3, K: far, Until: 8, In: true, Next: -1},
				{K: far, Until: 4, In: true, Next: 2},
				{Refs: 1, K: side, Until: 7, Next: 4},
				{K: side, Until: 2, Next: 4},
			},
			Heads: []int{3, 2},
			Free:  []int{5, 3},
			Locks: []int{-1, adder},
			Now:   5,
		},
		Tasks: []api.Task{
			{
				F:    api.Frame{C: listOf(1), At: 6, Cur: -2, Prev: 1, Slot: 3, N: 4, Keys: []api.Key{near, flow}, Done: true, E: api.OK},
				Held: []int{0, 1, 0, 2},
			},
			{
				Busy: true,
				F:    api.Frame{C: addOf(side, 2), At: 3, Cur: 2, Prev: 1, Slot: 4, N: 5, Keys: []api.Key{side}, E: api.ErrText},
				Held: []int{2},
			},
			{
				Busy: true,
				F:    api.Frame{C: lookFor(near), At: 4, Cur: 2, Slot: 1, Keys: []api.Key{far, near}},
			},
			{},
		},
	}
}

func lookFor(k api.Key) api.Call      { return api.Call{Kind: api.Look, K: k} }
func addOf(k api.Key, n int) api.Call { return api.Call{Kind: api.Add, K: k, Time: n} }
func dropOf(k api.Key) api.Call       { return api.Call{Kind: api.Drop, K: k} }
func sweepOf(b int) api.Call          { return api.Call{Kind: api.Sweep, Bucket: b} }
func listOf(b int) api.Call           { return api.Call{Kind: api.List, Bucket: b} }
func leaveOf(a int) api.Call          { return api.Call{Kind: api.Leave, Slot: a} }

func begins(task int, c api.Call) api.Pick { return api.Pick{Task: task, C: c} }
func goesOn(task int) api.Pick             { return api.Pick{Task: task, Step: true} }
func ticks() api.Pick                      { return api.Pick{Tick: true} }

// script: picks one after the other, a number n behind a pick meaning that it comes n times.
func script(l ...any) []api.Pick {
	var out []api.Pick
	for _, x := range l {
		switch x := x.(type) {
		case api.Pick:
			out = append(out, x)
		case []api.Pick:
			out = append(out, x...)
		case int:
			last := out[len(out)-1]
			for range x - 1 {
				out = append(out, last)
			}
		}
	}
	return out
}

// tells all of a thing; lists that have nothing in them are told alike, nil or not.
func tells(x any) string { return fmt.Sprintf("%+v", x) }

func same(t *testing.T, what string, got, want any) {
	t.Helper()
	if tells(got) != tells(want) {
		t.Errorf("%s:\n%+v, want\n%+v", what, got, want)
	}
}

// copyOf shares nothing with w.
func copyOf(w api.World) api.World {
	m := &w.M
	m.Slots, m.Heads = slices.Clone(m.Slots), slices.Clone(m.Heads)
	m.Free, m.Locks = slices.Clone(m.Free), slices.Clone(m.Locks)
	w.Tasks = slices.Clone(w.Tasks)
	for i := range w.Tasks {
		t := &w.Tasks[i]
		t.Held, t.F.Keys = slices.Clone(t.Held), slices.Clone(t.F.Keys)
	}
	return w
}

// does: a world behind a pick that must have no error.
func does(t *testing.T, w api.World, x api.Pick) api.World {
	t.Helper()
	v, e := Do(w, x)
	if e != api.OK {
		t.Fatalf("%+v: error %d in %+v", x, e, w)
	}
	return v
}

func newWorld(t *testing.T, many, buckets, tasks int) api.World {
	t.Helper()
	w, e := New(many, buckets, tasks)
	if e != api.OK {
		t.Fatalf("New(%d, %d, %d): error %d", many, buckets, tasks, e)
	}
	return w
}

// change of a world.
type change func(w *api.World)

// fault: a change, and what is wrong then.
type fault struct {
	what  string
	given change
	want  api.Errno
}

// farOut: numbers that no list has a place for.
func farOut() []int { return []int{math.MinInt, math.MinInt + 1, math.MaxInt - 1, math.MaxInt} }

// P9.1: New

func TestNew(t *testing.T) {
	for many := range api.MaxSlots + 1 {
		for b := range api.MaxBuckets {
			for n := range api.MaxTasks {
				w, e := New(many, b+1, n+1)
				m, _ := mem.New(many, b+1)
				if e != api.OK || !mem.Same(w.M, m) || len(w.Tasks) != n+1 {
					t.Fatalf("New(%d, %d, %d): %+v, %d", many, b+1, n+1, w, e)
				}
				same(t, "tasks that do nothing", w.Tasks, make([]api.Task, n+1))
				same(t, "Check of what is new", Check(w), api.OK)
			}
		}
	}
}

func TestNewOfWhatMayNotBe(t *testing.T) {
	type args struct{ many, buckets, tasks int }
	l := []args{
		{-1, 1, 1}, {api.MaxSlots + 1, 1, 1}, {2, 0, 1}, {2, -1, 1}, {2, api.MaxBuckets + 1, 1},
		{2, 1, 0}, {2, 1, -1}, {2, 1, api.MaxTasks + 1}, {0, 1, 0}, {api.MaxSlots, api.MaxBuckets, api.MaxTasks + 1},
		{-1, 0, 0}, {api.MaxSlots + 1, api.MaxBuckets + 1, api.MaxTasks + 1},
	}
	for _, n := range farOut() {
		l = append(l, args{n, 1, 1}, args{2, n, 1}, args{2, 1, n}, args{n, n, n})
	}
	for _, x := range l {
		w, e := New(x.many, x.buckets, x.tasks)
		same(t, fmt.Sprintf("New of %+v", x), []any{w, e}, []any{api.World{}, api.ErrRange})
	}
}

// P9.1: Check

func ofTask(i int, how func(t *api.Task)) change { return func(w *api.World) { how(&w.Tasks[i]) } }

func held(i int, l ...int) change       { return ofTask(i, func(t *api.Task) { t.Held = l }) }
func holdsToo(i, a int) change          { return ofTask(i, func(t *api.Task) { t.Held = append(t.Held, a) }) }
func busy(i int, is bool) change        { return ofTask(i, func(t *api.Task) { t.Busy = is }) }
func now(n int) change                  { return func(w *api.World) { w.M.Now = n } }
func frameOf(i int, f api.Frame) change { return ofTask(i, func(t *api.Task) { t.F = f }) }

// inFrame: a task's frame is otherwise.
func inFrame(i int, how func(f *api.Frame)) change {
	return ofTask(i, func(t *api.Task) { how(&t.F) })
}

// tooMany: a task holds one more than it may, whatever it held.
func tooMany(i int) change {
	return ofTask(i, func(t *api.Task) {
		for len(t.Held) <= api.MaxCalls {
			t.Held = append(t.Held, 0)
		}
	})
}

// holdsMany: a task holds so many.
func holdsMany(i, n int) change { return held(i, slices.Repeat([]int{0, 2}, n)[:n]...) }

// tasks: there are so many.
func tasks(n int) change {
	return func(w *api.World) {
		for len(w.Tasks) < n {
			w.Tasks = append(w.Tasks, api.Task{})
		}
		w.Tasks = w.Tasks[:n]
	}
}

func all(l ...change) change {
	return func(w *api.World) {
		for _, c := range l {
			c(w)
		}
	}
}

func memoryFaults() []fault {
	return []fault{
		{"more slots than may be", func(w *api.World) { w.M.Slots = make([]api.Slot, api.MaxSlots+1) }, api.ErrMany},
		{"no chain", func(w *api.World) { w.M.Heads, w.M.Locks = nil, nil }, api.ErrMany},
		{"a lock too few", func(w *api.World) { w.M.Locks = w.M.Locks[:1] }, api.ErrForm},
		{"time ahead of 0", now(-1), api.ErrRange},
		{"time beyond its end", now(api.MaxTime + 1), api.ErrRange},
		{"a slot held too often", func(w *api.World) { w.M.Slots[4].Refs = api.MaxRefs + 1 }, api.ErrRange},
		{"nothing stands there", func(w *api.World) { w.M.Slots[4].Next = 7 }, api.ErrWho},
		{"a begin that is none", func(w *api.World) { w.M.Heads[1] = 0 }, api.ErrWho},
		{"the lock of no task", func(w *api.World) { w.M.Locks[1] = api.MaxTasks }, api.ErrRange},
		{"free twice", func(w *api.World) { w.M.Free = []int{5, 3, 5} }, api.ErrTwice},
		{"not free", func(w *api.World) { w.M.Free = []int{3} }, api.ErrForm},
		{"no world", func(w *api.World) { *w = api.World{} }, api.ErrMany},
	}
}

func taskFaults() []fault {
	l := []fault{
		{"nothing is wrong", all(), api.OK},
		{"no tasks", func(w *api.World) { w.Tasks = nil }, api.ErrRange},
		{"an empty list of tasks", func(w *api.World) { w.Tasks = []api.Task{} }, api.ErrRange},
		{"one task", tasks(1), api.OK},
		{"as many tasks as may be", tasks(api.MaxTasks), api.OK},
		{"one task more than may be", tasks(api.MaxTasks + 1), api.ErrRange},
		{"nobody holds anything", all(held(0), held(1), held(2)), api.OK},
		{"a free one is held", held(3, 5), api.OK},
		{"a lock of a task that there is not", func(w *api.World) { w.M.Locks[0] = api.MaxTasks - 1 }, api.OK},
	}
	for i := range sample().Tasks {
		l = append(l,
			fault{"as many as can be held", holdsMany(i, api.MaxCalls), api.OK},
			fault{"one more than can be held", holdsMany(i, api.MaxCalls+1), api.ErrMany},
			fault{"the first and the last slot", held(i, 0, 5), api.OK},
			fault{"a slot too far", held(i, 6), api.ErrWho},
			fault{"a slot too far behind others", held(i, 0, 5, 0, 6), api.ErrWho},
			fault{"a slot too far ahead of others", held(i, 6, 0), api.ErrWho},
			fault{"a slot below 0", held(i, -1), api.ErrWho},
			fault{"a slot below 0 among others", held(i, 0, -1, 3), api.ErrWho},
			fault{"the last of as many as can be held", all(holdsMany(i, api.MaxCalls-1), holdsToo(i, 6)), api.ErrWho},
		)
		for _, n := range farOut() {
			l = append(l, fault{"no slot at all", held(i, n), api.ErrWho})
		}
	}
	return l
}

// frameFaults: of a task that is busy, for chapter 4's Check finds the same.
func frameFaults(i int) []fault {
	is := func(how func(f *api.Frame)) change {
		return all(busy(i, true), frameOf(i, frame.New(lookFor(flow))), inFrame(i, how))
	}
	return []fault{
		{"a new call", is(func(f *api.Frame) {}), api.OK},
		{"no kind", is(func(f *api.Frame) { f.C.Kind = 0 }), api.ErrForm},
		{"no key", is(func(f *api.Frame) { f.C.K.B = api.MaxEnd + 1 }), api.ErrRange},
		{"no chain", is(func(f *api.Frame) { f.C = sweepOf(2) }), api.ErrWho},
		{"no slot to leave", is(func(f *api.Frame) { f.C = leaveOf(6) }), api.ErrWho},
		{"a slot to leave that it doesn't hold", is(func(f *api.Frame) { f.C = leaveOf(5) }), api.OK},
		{"the last place", is(func(f *api.Frame) { f.At = 9 }), api.OK},
		{"no place", is(func(f *api.Frame) { f.At = 10 }), api.ErrRange},
		{"done", is(func(f *api.Frame) { f.Done = true }), api.ErrRange},
		{"N below 0", is(func(f *api.Frame) { f.N = -1 }), api.ErrRange},
		{"Cur too far", is(func(f *api.Frame) { f.Cur = 7 }), api.ErrWho},
		{"Prev below 0", is(func(f *api.Frame) { f.Prev = -1 }), api.ErrWho},
		{"Slot below -1", is(func(f *api.Frame) { f.Slot = -2 }), api.ErrWho},
		{"as many keys as can be", is(func(f *api.Frame) { f.Keys = make([]api.Key, api.MaxCalls) }), api.OK},
		{"a key more than can be", is(func(f *api.Frame) { f.Keys = make([]api.Key, api.MaxCalls+1) }), api.ErrMany},
	}
}

// allFaults: each way in which a world can be wrong, and those in which it just isn't.
func allFaults() []fault {
	l := slices.Concat(memoryFaults(), taskFaults())
	for i := range sample().Tasks {
		for _, x := range frameFaults(i) {
			l = append(l, x, fault{"not busy: " + x.what, all(x.given, busy(i, false)), api.OK})
		}
	}
	return l
}

func TestCheck(t *testing.T) {
	for _, x := range allFaults() {
		w := sample()
		x.given(&w)
		same(t, x.what, Check(w), x.want)
	}
}

// inOrder: faults that can stand beside each other, in the order in which they are to be told.
func inOrder() []fault {
	l := []fault{
		{"memory", func(w *api.World) { w.M.Locks = w.M.Locks[:1] }, api.ErrForm},
		{"tasks", tasks(api.MaxTasks + 1), api.ErrRange},
	}
	for i := range sample().Tasks {
		l = append(l,
			fault{fmt.Sprint("held too many by ", i), tooMany(i), api.ErrMany},
			fault{fmt.Sprint("held by ", i), holdsToo(i, -1), api.ErrWho},
			fault{fmt.Sprint("frame of ", i), all(busy(i, true), inFrame(i, func(f *api.Frame) { f.C.Kind = 7 })), api.ErrForm},
		)
	}
	return l
}

func TestCheckOfTwoFaults(t *testing.T) {
	l := inOrder()
	for i, first := range l {
		for _, second := range l[i:] {
			for _, both := range []change{all(first.given, second.given), all(second.given, first.given)} {
				w := sample()
				both(&w)
				same(t, first.what+" and "+second.what, Check(w), first.want)
			}
		}
	}
}

// P9.2: what all picks have in common

func somePicks() []api.Pick {
	l := []api.Pick{ticks(), begins(-1, api.Call{}), goesOn(4)}
	for i := range sample().Tasks {
		l = append(l, begins(i, addOf(side, 1)), begins(i, api.Call{}), goesOn(i))
	}
	return l
}

func TestDoInAWorldThatIsWrong(t *testing.T) {
	for _, x := range allFaults() {
		w := sample()
		x.given(&w)
		for _, p := range somePicks() {
			v, e := Do(w, p)
			if x.want != api.OK {
				same(t, fmt.Sprintf("%s: %+v", x.what, p), []any{v, e}, []any{api.World{}, x.want})
			}
		}
	}
}

func TestDoOfATaskThatThereIsNot(t *testing.T) {
	for _, n := range append(farOut(), -1, len(sample().Tasks), api.MaxTasks) {
		for _, x := range []api.Pick{goesOn(n), begins(n, lookFor(flow)), begins(n, api.Call{}), begins(n, leaveOf(5))} {
			v, e := Do(sample(), x)
			same(t, tells(x), []any{v, e}, []any{api.World{}, api.ErrWho})
		}
	}
	w := sample()
	tasks(1)(&w)
	_, e := Do(w, begins(1, lookFor(flow)))
	same(t, "the second of one task", e, api.ErrWho)
}

// P9.2: Tick

func TestTick(t *testing.T) {
	for _, n := range []int{0, 1, 5, api.MaxTime - 1} {
		for _, x := range []api.Pick{
			ticks(), {Tick: true, Step: true}, {Tick: true, Task: -1}, {Tick: true, Task: 4, Step: true},
			{Tick: true, Task: math.MaxInt}, {Tick: true, Task: idle, Step: true}, {Tick: true, Task: looker, Step: true},
			{Tick: true, Task: fresh, C: addOf(side, 1)}, {Tick: true, Task: looker, C: api.Call{Kind: 9}},
		} {
			w, want := sample(), sample()
			w.M.Now, want.M.Now = n, n+1
			v, e := Do(w, x)
			same(t, tells(x), []any{v, e}, []any{want, api.OK})
		}
	}
}

func TestTickAtTheEndOfTime(t *testing.T) {
	for _, x := range []api.Pick{ticks(), {Tick: true, Step: true}, {Tick: true, Task: -1}, {Tick: true, Task: looker, Step: true}} {
		w := sample()
		w.M.Now = api.MaxTime
		v, e := Do(w, x)
		same(t, tells(x), []any{v, e}, []any{api.World{}, api.ErrFull})
	}
	w := sample()
	w.M.Now = api.MaxTime
	same(t, "a step at the end of time", does(t, w, goesOn(adder)).M.Now, api.MaxTime)
}

// P9.2: a call begins

func someCalls() []api.Call {
	return []api.Call{
		lookFor(flow), addOf(side, 1), addOf(flow, api.MaxTime), dropOf(near), sweepOf(0), listOf(1), leaveOf(0), leaveOf(2),
		{Kind: api.Look, K: far, Time: -1, Bucket: 9, Slot: 99}, {Kind: api.Sweep, K: api.Key{A: -1}, Time: 7, Bucket: 1, Slot: -9},
		{Kind: api.Leave, K: api.Key{B: 77}, Time: -7, Bucket: -1, Slot: 1},
	}
}

func TestBegin(t *testing.T) {
	for _, c := range someCalls() {
		want := sample()
		want.Tasks[idle].Busy = true
		want.Tasks[idle].F = api.Frame{C: c, Slot: -1}
		same(t, tells(c), does(t, sample(), begins(idle, c)), want)
	}
}

func TestBeginOfATaskThatDidNothingYet(t *testing.T) {
	want := sample()
	want.Tasks[fresh] = api.Task{Busy: true, F: api.Frame{C: dropOf(far), Slot: -1}}
	same(t, "a Drop", does(t, sample(), begins(fresh, dropOf(far))), want)
}

func TestBeginThatIsRefused(t *testing.T) {
	noKey := api.Key{A: api.MaxEnd + 1}
	for _, x := range []struct {
		what  string
		given change
		x     api.Pick
		want  api.Errno
	}{
		{"busy with an Add", all(), begins(adder, lookFor(flow)), api.ErrLate},
		{"busy with a Look", all(), begins(looker, addOf(flow, 1)), api.ErrLate},
		{"busy, and no call", all(), begins(looker, api.Call{}), api.ErrLate},
		{"busy, and no key", all(), begins(adder, lookFor(noKey)), api.ErrLate},
		{"busy, and a slot that it doesn't hold", all(), begins(looker, leaveOf(0)), api.ErrLate},
		{"busy, and no room", holdsMany(looker, api.MaxCalls), begins(looker, lookFor(flow)), api.ErrLate},
		{"no kind", all(), begins(idle, api.Call{}), api.ErrForm},
		{"a kind too far", all(), begins(idle, api.Call{Kind: 7, K: flow, Time: 1}), api.ErrForm},
		{"a kind below 0", all(), begins(idle, api.Call{Kind: -1}), api.ErrForm},
		{"a Look without a key", all(), begins(idle, lookFor(noKey)), api.ErrRange},
		{"an Add without a key", all(), begins(idle, addOf(noKey, 1)), api.ErrRange},
		{"an Add for no time", all(), begins(idle, addOf(side, 0)), api.ErrRange},
		{"a Drop without a key", all(), begins(idle, dropOf(api.Key{B: -1})), api.ErrRange},
		{"a Sweep of no chain", all(), begins(idle, sweepOf(2)), api.ErrWho},
		{"a List of no chain", all(), begins(idle, listOf(-1)), api.ErrWho},
		{"a Leave of no slot", all(), begins(idle, leaveOf(6)), api.ErrWho},
		{"a Leave of a slot below 0", all(), begins(idle, leaveOf(-1)), api.ErrWho},
		{"a Leave of what isn't held", all(), begins(idle, leaveOf(3)), api.ErrTwice},
		{"a Leave of what another one holds", all(), begins(fresh, leaveOf(2)), api.ErrTwice},
		{"a Leave, and nothing is held", held(idle), begins(idle, leaveOf(0)), api.ErrTwice},
		{"a Look without room", holdsMany(idle, api.MaxCalls), begins(idle, lookFor(flow)), api.ErrFull},
		{"a Look without a key and without room", holdsMany(idle, api.MaxCalls), begins(idle, lookFor(noKey)), api.ErrRange},
	} {
		w := sample()
		x.given(&w)
		v, e := Do(w, x.x)
		same(t, x.what, []any{v, e}, []any{api.World{}, x.want})
	}
}

func TestBeginWithHardlyAnyRoom(t *testing.T) {
	taken := func(what string, given change, x api.Pick) {
		w := sample()
		given(&w)
		want := copyOf(w)
		want.Tasks[x.Task].Busy, want.Tasks[x.Task].F = true, api.Frame{C: x.C, Slot: -1}
		same(t, what, does(t, w, x), want)
	}
	taken("a Look with room for one", holdsMany(idle, api.MaxCalls-1), begins(idle, lookFor(flow)))
	for _, c := range []api.Call{addOf(side, 1), dropOf(flow), sweepOf(1), listOf(0), leaveOf(2), leaveOf(0)} {
		taken("no Look, without room", holdsMany(idle, api.MaxCalls), begins(idle, c))
	}
	taken("a Look, another one being without room", holdsMany(adder, api.MaxCalls), begins(idle, lookFor(flow)))
}

// P9.2: a step

func TestStepOfWhoDoesNothing(t *testing.T) {
	for _, i := range []int{idle, fresh} {
		v, e := Do(sample(), goesOn(i))
		same(t, "a step", []any{v, e}, []any{api.World{}, api.ErrLate})
	}
}

// TestStepAsksForNoCall: what C is of a pick that goes on is nobody's concern.
func TestStepAsksForNoCall(t *testing.T) {
	for _, c := range append(someCalls(), api.Call{Kind: 9}, leaveOf(99)) {
		for _, i := range []int{adder, looker} {
			want := does(t, sample(), goesOn(i))
			same(t, tells(c), does(t, sample(), api.Pick{Task: i, Step: true, C: c}), want)
		}
	}
}

// stepOf: what chapters 5 to 8 make of a frame.
func stepOf(m *api.Mem, f api.Frame, task int) api.Frame {
	switch f.C.Kind {
	case api.Look:
		return look.Step(m, f)
	case api.Add:
		return add.Step(m, f, task)
	case api.Drop:
		return drop.Step(m, f, task)
	}
	return sweep.Step(m, f, task)
}

// frames: calls of each kind but Leave, at each place, standing and having in their hands whatever there is.
func frames(do func(f api.Frame)) {
	for _, c := range []api.Call{lookFor(near), lookFor(side), addOf(flow, 3), addOf(far, 3), dropOf(flow), dropOf(far), sweepOf(0), sweepOf(1), listOf(1)} {
		for at := range 10 {
			for cur := -2; cur <= 6; cur++ {
				for slot := -1; slot < 6; slot++ {
					do(api.Frame{C: c, At: at, Cur: cur, Prev: max(cur, 0) / 2, Slot: slot, N: 3, Keys: []api.Key{far}, E: api.ErrTwice})
				}
			}
		}
	}
}

func TestStepOfEachPlace(t *testing.T) {
	for i := range sample().Tasks {
		frames(func(f api.Frame) {
			w := sample()
			w.M.Now = 6
			w.Tasks[i].Busy, w.Tasks[i].F = true, f
			want := copyOf(w)
			g := stepOf(&want.M, f, i)
			want.Tasks[i].F, want.Tasks[i].Busy = g, !g.Done
			if g.Done && g.E == api.OK && f.C.Kind == api.Look {
				want.Tasks[i].Held = append(want.Tasks[i].Held, g.Slot)
			}
			same(t, tells(f), does(t, w, goesOn(i)), want)
		})
	}
}

func TestLookThatFinds(t *testing.T) {
	want := sample()
	x := &want.Tasks[looker]
	x.Busy, x.F.Done, x.F.E, x.Held = false, true, api.OK, []int{1}
	same(t, "the first one", does(t, sample(), goesOn(looker)), want)

	w := sample()
	w.Tasks[looker].Held, x.Held = []int{2, 1}, []int{2, 1, 1}
	same(t, "behind others", does(t, w, goesOn(looker)), want)
}

func TestLookThatFindsNone(t *testing.T) {
	w := sample()
	w.Tasks[looker].F = api.Frame{C: lookFor(side), At: 1, Cur: -2, Slot: -1}
	want := copyOf(w)
	want.Tasks[looker].Busy = false
	want.Tasks[looker].F.Done, want.Tasks[looker].F.E = true, api.ErrWho
	same(t, "at the end", does(t, w, goesOn(looker)), want)

	w = sample()
	w.Tasks[looker].F.At = 6
	want = copyOf(w)
	want.M.Slots[1].Refs = 2
	want.Tasks[looker].Busy = false
	f := &want.Tasks[looker].F
	f.Slot, f.Done, f.E = -1, true, api.ErrWho
	same(t, "what was over", does(t, w, goesOn(looker)), want)
}

// TestFoundBeyondRoom: no such world comes of New, but it is taken, and what is found is behind Held there, too.
func TestFoundBeyondRoom(t *testing.T) {
	w := sample()
	holdsMany(looker, api.MaxCalls)(&w)
	want := append(slices.Clone(w.Tasks[looker].Held), 1)
	v := does(t, w, goesOn(looker))
	same(t, "Held", v.Tasks[looker].Held, want)
	same(t, "Check", Check(v), api.ErrMany)
}

// TestOKOfOthersIsNotHeld: an Add that is done has a Slot, too, but that is the chain's.
func TestOKOfOthersIsNotHeld(t *testing.T) {
	w := sample()
	f := &w.Tasks[adder].F
	f.At, f.E = 7, api.OK
	want := copyOf(w)
	want.M.Locks[1] = -1
	want.Tasks[adder].Busy, want.Tasks[adder].F.Done = false, true
	same(t, "an Add", does(t, w, goesOn(adder)), want)
}

// P9.2: Leave

func TestLeave(t *testing.T) {
	for _, x := range []struct {
		what       string
		held, then []int
		a          int
	}{
		{"held once, alone", []int{0}, nil, 0},
		{"held once, ahead of others", []int{0, 1, 2}, []int{1, 2}, 0},
		{"held once, among others", []int{1, 0, 2}, []int{1, 2}, 0},
		{"held once, behind others", []int{1, 2, 0}, []int{1, 2}, 0},
		{"held twice, alone", []int{0, 0}, []int{0}, 0},
		{"held twice, the first one ahead", []int{0, 1, 0, 2}, []int{1, 0, 2}, 0},
		{"held twice, others ahead", []int{2, 0, 1, 0}, []int{2, 1, 0}, 0},
		{"held three times", []int{1, 2, 1, 0, 1}, []int{2, 1, 0, 1}, 1},
		{"the last slot", []int{5, 2}, []int{2}, 5},
	} {
		w := sample()
		w.M.Slots[5].Refs, w.M.Free = 2, []int{3}
		w.Tasks[idle].Held = x.held
		w = does(t, w, begins(idle, leaveOf(x.a)))
		want := copyOf(w)
		want.M.Slots[x.a].Refs--
		want.Tasks[idle] = api.Task{F: api.Frame{C: leaveOf(x.a), Slot: -1, Done: true}, Held: x.then}
		same(t, x.what, does(t, w, goesOn(idle)), want)
	}
}

// leaving: a world in which the idle one holds these, and leaves slot a next; nobody else holds that.
func leaving(a int, held ...int) api.World {
	w := sample()
	w.M.Slots[3].Refs, w.M.Free = 1, []int{5}
	w.Tasks[idle].Held = held
	w.Tasks[idle].Busy, w.Tasks[idle].F = true, frame.New(leaveOf(a))
	return w
}

func TestLeaveOfWhatNobodyElseHolds(t *testing.T) {
	want := leaving(3, 0, 3)
	want.M.Slots[3].Refs, want.M.Free = 0, []int{5, 3}
	want.Tasks[idle] = api.Task{F: api.Frame{C: leaveOf(3), Slot: -1, Done: true}, Held: []int{0}}
	same(t, "free again", does(t, leaving(3, 0, 3), goesOn(idle)), want)
}

// TestLeaveOfWhatIsNotHeld: no such call begins, but a world may be handed in in which it did.
func TestLeaveOfWhatIsNotHeld(t *testing.T) {
	for _, held := range [][]int{nil, {0}, {0, 1, 2, 0}} {
		want := leaving(3, held...)
		want.Tasks[idle] = api.Task{F: api.Frame{C: leaveOf(3), Slot: -1, Done: true}, Held: held}
		same(t, "not held", does(t, leaving(3, held...), goesOn(idle)), want)
	}
}

func TestLeaveOfWhatIsFree(t *testing.T) {
	want := leaving(5, 0, 5, 5)
	want.Tasks[idle] = api.Task{F: api.Frame{C: leaveOf(5), Slot: -1, Done: true}, Held: []int{0, 5}}
	same(t, "Refs 0", does(t, leaving(5, 0, 5, 5), goesOn(idle)), want)
}

// TestLeaveFromEachPlace: a Leave has one step, wherever it is, and what else its frame has stays.
func TestLeaveFromEachPlace(t *testing.T) {
	for at := range 10 {
		w := leaving(3, 3, 0)
		w.Tasks[idle].F = api.Frame{C: leaveOf(3), At: at, Cur: 2, Prev: 1, Slot: 0, N: 4, Keys: []api.Key{far, flow}, E: api.ErrText}
		want := copyOf(w)
		want.M.Slots[3].Refs, want.M.Free = 0, []int{5, 3}
		x := &want.Tasks[idle]
		x.Busy, x.F.Done, x.F.E, x.Held = false, true, api.OK, []int{0}
		same(t, "a Leave", does(t, w, goesOn(idle)), want)
	}
}

// P9.2: each kind from its begin to its end

// toTheEnd goes on with a task's call until it is done, and answers how many steps that took.
func toTheEnd(t *testing.T, w api.World, task int) (api.World, int) {
	t.Helper()
	for n := range 50 {
		if !w.Tasks[task].Busy {
			return w, n
		}
		w = does(t, w, goesOn(task))
	}
	t.Fatalf("no end: %+v", w)
	return w, 0
}

func TestEachKindToItsEnd(t *testing.T) {
	w := newWorld(t, 3, 2, 2)
	type end struct {
		E    api.Errno
		Slot int
		N    int
		Keys []api.Key
	}
	for _, x := range []struct {
		task  int
		c     api.Call
		steps int
		end   end
		flows []api.Flow
		held  []int
	}{
		{0, lookFor(flow), 2, end{E: api.ErrWho, Slot: -1}, nil, nil},
		{1, addOf(flow, 4), 6, end{Slot: 0}, []api.Flow{{K: flow, Slot: 0, Until: 4}}, nil},
		{0, addOf(near, 1), 8, end{Slot: 1}, []api.Flow{{K: near, Slot: 1, Until: 1}, {K: flow, Slot: 0, Until: 4}}, nil},
		{1, addOf(flow, 4), 8, end{E: api.ErrTwice, Slot: -1}, []api.Flow{{K: near, Slot: 1, Until: 1}, {K: flow, Slot: 0, Until: 4}}, nil},
		{0, lookFor(flow), 6, end{Slot: 0}, []api.Flow{{K: near, Slot: 1, Until: 1}, {K: flow, Slot: 0, Until: 4}}, []int{0}},
		{0, lookFor(near), 4, end{Slot: 1}, []api.Flow{{K: near, Slot: 1, Until: 1}, {K: flow, Slot: 0, Until: 4}}, []int{0, 1}},
		{1, listOf(1), 8, end{Slot: -1, Keys: []api.Key{near, flow}}, []api.Flow{{K: near, Slot: 1, Until: 1}, {K: flow, Slot: 0, Until: 4}}, []int{0, 1}},
		{0, leaveOf(0), 1, end{Slot: -1}, []api.Flow{{K: near, Slot: 1, Until: 1}, {K: flow, Slot: 0, Until: 4}}, []int{1}},
		{0, dropOf(flow), 8, end{Slot: -1}, []api.Flow{{K: near, Slot: 1, Until: 1}}, []int{1}},
		{1, sweepOf(1), 6, end{Slot: -1}, []api.Flow{{K: near, Slot: 1, Until: 1}}, []int{1}},
		{0, leaveOf(1), 1, end{Slot: -1}, []api.Flow{{K: near, Slot: 1, Until: 1}}, nil},
		{0, dropOf(far), 5, end{E: api.ErrWho, Slot: -1}, []api.Flow{{K: near, Slot: 1, Until: 1}}, nil},
	} {
		w = does(t, w, begins(x.task, x.c))
		v, steps := toTheEnd(t, w, x.task)
		f := v.Tasks[x.task].F
		same(t, tells(x.c), []any{steps, end{f.E, f.Slot, f.N, f.Keys}, f.C, v.Tasks[0].Held, len(v.Tasks[1].Held)}, []any{x.steps, x.end, x.c, x.held, 0})
		l, e := Flows(v)
		same(t, "flows", []any{l, e}, []any{x.flows, api.OK})
		w = v
	}
	w, _ = toTheEnd(t, does(t, does(t, w, ticks()), begins(1, sweepOf(1))), 1)
	l, e := Flows(w)
	same(t, "swept", []any{w.Tasks[1].F.N, l, e, w.M.Free, w.M.Now}, []any{1, []api.Flow(nil), api.OK, []int{2, 0, 1}, 1})
}

// TestOtherTasksStay: whoever goes on, nothing of the others changes.
func TestOtherTasksStay(t *testing.T) {
	w := newWorld(t, 2, 2, 3)
	d := dice(3)
	for range 3000 {
		x := d.pick(3, 2, 2)
		v, e := Do(w, x)
		if e != api.OK {
			continue
		}
		for i := range w.Tasks {
			if x.Tick || i != x.Task {
				same(t, tells(x), v.Tasks[i], w.Tasks[i])
			}
		}
		if !x.Tick && !x.Step {
			same(t, "what is begun changes no memory", v.M, w.M)
		}
		if !x.Tick {
			same(t, "no time goes by", v.M.Now, w.M.Now)
		}
		w = v
	}
}

// P9.3: Flows

func TestFlows(t *testing.T) {
	l, e := Flows(sample())
	same(t, "flows", []any{l, e}, []any{[]api.Flow{{K: far, Slot: 2, Until: 8}, {K: near, Slot: 1, Until: 9}, {K: flow, Slot: 0, Until: 6}}, api.OK})
	l, e = Flows(newWorld(t, 0, 1, 1))
	same(t, "no flows", []any{l, e}, []any{[]api.Flow(nil), api.OK})
}

func TestFlowsOfAWorldThatIsWrong(t *testing.T) {
	for _, x := range allFaults() {
		if x.want == api.OK {
			continue
		}
		w := sample()
		x.given(&w)
		l, e := Flows(w)
		same(t, x.what, []any{l == nil, e}, []any{true, x.want})
	}
}

// chainFaults: chapter 3 finds these, chapter 2 doesn't.
func chainFaults() []fault {
	return []fault{
		{"it goes round", func(w *api.World) { w.M.Slots[0].Next = 2 }, api.ErrForm},
		{"another chain's end", func(w *api.World) { w.M.Slots[0].Next = -1 }, api.ErrForm},
		{"not In", func(w *api.World) { w.M.Slots[0].In = false }, api.ErrWho},
		{"a key of another chain", func(w *api.World) { w.M.Slots[0].K = far }, api.ErrForm},
		{"twice the same key", func(w *api.World) { w.M.Slots[0].K = near }, api.ErrTwice},
	}
}

func TestFlowsOfChainsThatAreWrong(t *testing.T) {
	for _, x := range chainFaults() {
		w := sample()
		x.given(&w)
		same(t, "chapter 9 asks for no chains", Check(w), api.OK)
		l, e := Flows(w)
		same(t, x.what, []any{l == nil, e}, []any{true, x.want})
		tooMany(fresh)(&w)
		_, e = Flows(w)
		same(t, x.what+", and a task", e, api.ErrMany)
	}
}
