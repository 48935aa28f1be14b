package world

import (
	"fmt"
	"slices"
	"testing"

	"turnstile/api"
	"turnstile/chain"
)

// P9.4: from New on, whatever is picked

// inHands: has a call that is being done slot a in its hands? Its frame's Slot is more than that at some places.
func inHands(f api.Frame, a int) bool {
	if f.Slot != a {
		return false
	}
	switch f.C.Kind {
	case api.Look:
		return f.At >= 4
	case api.Add: // from the linking on it is the chain's
		return 1 <= f.At && f.At <= 6
	case api.Drop:
		return f.At >= 5
	case api.Sweep:
		return f.At == 5
	}
	return false
}

// holders: how often a slot is held, counted one by one: by a chain, by calls, by tasks that found it.
func holders(w api.World, flows []api.Flow, a int) int {
	n := 0
	for _, f := range flows {
		if f.Slot == a {
			n++
		}
	}
	for _, t := range w.Tasks {
		if t.Busy && inHands(t.F, a) {
			n++
		}
		for _, b := range t.Held {
			if b == a {
				n++
			}
		}
	}
	return n
}

// isRight: chains are right, each slot is held as often as somebody holds it, a lock is its who goes under it.
func isRight(t *testing.T, w api.World) {
	t.Helper()
	if c, e := chain.Check(w.M), Check(w); c != api.OK || e != api.OK {
		t.Fatalf("chains: error %d, world: error %d: %+v", c, e, w)
	}
	flows, e := Flows(w)
	if e != api.OK {
		t.Fatalf("flows: error %d: %+v", e, w)
	}
	for a, s := range w.M.Slots {
		if n := holders(w, flows, a); n != s.Refs {
			t.Fatalf("slot %d is held %d times, Refs %d: %+v", a, n, s.Refs, w)
		}
	}
	for b, who := range w.M.Locks {
		if who != -1 && (who >= len(w.Tasks) || !w.Tasks[who].Busy) {
			t.Fatalf("the lock of chain %d is of %d, who does nothing: %+v", b, who, w)
		}
	}
}

// stays: no slot that somebody holds ahead of a step is another flow's behind it.
func stays(t *testing.T, ahead, behind api.World) {
	t.Helper()
	for a, s := range ahead.M.Slots {
		r := behind.M.Slots[a]
		if s.Refs > 0 && (r.K != s.K || r.Until != s.Until || s.In && !r.In) {
			t.Fatalf("slot %d was held, and was taken: %+v, then %+v", a, ahead, behind)
		}
		if s.Refs == 0 && r.Refs > 1 {
			t.Fatalf("slot %d was held without being taken: %+v, then %+v", a, ahead, behind)
		}
	}
}

// rounds: in how many turns each the tasks of w, going on in that order, come to an end.
func rounds(t *testing.T, w api.World, order []int) int {
	t.Helper()
	first := w
	for n := range 100 {
		going := false
		for _, i := range order {
			if !w.Tasks[i].Busy {
				continue
			}
			going = true
			v := does(t, w, goesOn(i))
			stays(t, w, v)
			w = v
		}
		if !going {
			isRight(t, w)
			return n
		}
	}
	t.Fatalf("no end: %+v", first)
	return 0
}

// ordersOf: the tasks from the first one on, and from the last one on.
func ordersOf(w api.World) [][]int {
	var l []int
	for i := range w.Tasks {
		l = append(l, i)
	}
	back := slices.Clone(l)
	slices.Reverse(back)
	return [][]int{l, back}
}

// find: a slot, and the key by which it was found.
type find struct {
	a int
	k api.Key
}

// finder: what each task found, and didn't leave yet.
type finder [][]find

func (x finder) after(p api.Pick, w api.World) {
	if p.Tick || !p.Step || w.Tasks[p.Task].Busy {
		return
	}
	f, l := w.Tasks[p.Task].F, &x[p.Task]
	switch {
	case f.C.Kind == api.Look && f.E == api.OK:
		*l = append(*l, find{f.Slot, f.C.K})
	case f.C.Kind == api.Leave:
		i := slices.IndexFunc(*l, func(x find) bool { return x.a == f.C.Slot })
		*l = slices.Delete(*l, i, i+1)
	}
}

// holds: is all that was found still what it was?
func (x finder) holds(t *testing.T, w api.World) {
	t.Helper()
	for i, l := range x {
		var now []find
		for _, a := range w.Tasks[i].Held {
			now = append(now, find{a, w.M.Slots[a].K})
		}
		if !slices.Equal(now, l) {
			t.Fatalf("task %d found %v, and holds %v: %+v", i, l, now, w)
		}
	}
}

// ending: a kind of call, and an error with which it is done.
type ending struct {
	kind int
	e    api.Errno
}

// goesBy picks by dice in a world from New on, asks at each step, and counts how calls end.
func goesBy(t *testing.T, d *throws, ended map[ending]int) {
	w := newWorld(t, d.below(5), 1+d.below(3), 1+d.below(api.MaxTasks))
	x := make(finder, len(w.Tasks))
	for range 2 * api.MaxScript {
		p := d.pick(len(w.Tasks), len(w.M.Slots), len(w.M.Heads))
		v, e := Do(w, p)
		if e != api.OK {
			continue
		}
		isRight(t, v)
		stays(t, w, v)
		x.after(p, v)
		x.holds(t, v)
		if f := v.Tasks[p.Task].F; p.Step && f.Done {
			ended[ending{f.C.Kind, f.E}]++
		}
		w = v
	}
	for _, order := range ordersOf(w) {
		rounds(t, w, order)
	}
}

func TestManyScripts(t *testing.T) {
	ended := map[ending]int{}
	for seed := range 600 {
		goesBy(t, dice(uint64(seed)), ended)
	}
	want := []ending{
		{api.Look, api.OK}, {api.Look, api.ErrWho}, {api.Add, api.OK}, {api.Add, api.ErrTwice}, {api.Add, api.ErrFull},
		{api.Drop, api.OK}, {api.Drop, api.ErrWho}, {api.Sweep, api.OK}, {api.List, api.OK}, {api.Leave, api.OK},
	}
	for _, x := range want {
		if ended[x] < 100 {
			t.Errorf("hardly any call ended so: %+v, %d", x, ended[x])
		}
	}
	if len(ended) != len(want) {
		t.Errorf("calls can't end so: %v", ended)
	}
}

// TestWhatIsHeldIsNotTaken: the only slot is dropped, but found: it is free when it is left, not ahead of that.
func TestWhatIsHeldIsNotTaken(t *testing.T) {
	v, got := runs(t, newWorld(t, 1, 2, 3), script(
		begins(0, addOf(flow, 9)), goesOn(0), 6, // 0 to 6
		begins(1, lookFor(flow)), goesOn(1), 4, // 7 to 11
		begins(2, lookFor(flow)), goesOn(2), 3, // 12 to 15: it holds, and will ask again
		begins(0, dropOf(flow)), goesOn(0), 6, // 16 to 22
		begins(0, addOf(far, 9)), goesOn(0), // 23, 24
		begins(1, leaveOf(0)), goesOn(1), // 25, 26
		begins(0, addOf(far, 9)), goesOn(0), // 27, 28
		goesOn(2),                           // 29
		begins(0, addOf(far, 9)), goesOn(0), // 30, 31
		begins(2, leaveOf(0)), goesOn(2), // 32, 33
		begins(0, addOf(far, 9)), goesOn(0), 6, // 34 to 40
	))
	same(t, "run", got, ran{oks(41), []api.Past{
		{Task: 0, C: addOf(flow, 9), From: 0, To: 6, Slot: 0},
		{Task: 1, C: lookFor(flow), From: 7, To: 11, Slot: 0},
		{Task: 0, C: dropOf(flow), From: 16, To: 22, Slot: -1},
		{Task: 0, C: addOf(far, 9), From: 23, To: 24, E: api.ErrFull, Slot: -1},
		{Task: 1, C: leaveOf(0), From: 25, To: 26, Slot: -1},
		{Task: 0, C: addOf(far, 9), From: 27, To: 28, E: api.ErrFull, Slot: -1},
		{Task: 2, C: lookFor(flow), From: 12, To: 29, Slot: 0},
		{Task: 0, C: addOf(far, 9), From: 30, To: 31, E: api.ErrFull, Slot: -1},
		{Task: 2, C: leaveOf(0), From: 32, To: 33, Slot: -1},
		{Task: 0, C: addOf(far, 9), From: 34, To: 40, Slot: 0},
	}})
	l, e := Flows(v)
	same(t, "flows", []any{l, e}, []any{[]api.Flow{{K: far, Slot: 0, Until: 9}}, api.OK})
}

// Each order of picks in small worlds

// scene: a small world, and what its tasks may begin there.
type scene struct {
	what          string
	many, buckets int
	tasks         [][]api.Call
	until         int // how far time goes
	held          int // how many slots a task finds at most, without leaving any
}

func scenes() []scene {
	return []scene{
		{"a Look, a slot that is taken for flows of two chains", 1, 2, [][]api.Call{
			{lookFor(flow), leaveOf(0)},
			{addOf(flow, 1), dropOf(flow), addOf(far, 1), dropOf(far)},
		}, 1, 2},
		{"all kinds", 1, 2, [][]api.Call{
			{lookFor(flow), leaveOf(0)}, {addOf(flow, 1), addOf(far, 1)}, {dropOf(flow), sweepOf(0), listOf(1)},
		}, 1, 2},
		{"two that add the same, one that drops", 2, 1, [][]api.Call{
			{addOf(flow, 1)}, {addOf(flow, 2)}, {dropOf(flow)},
		}, 0, 0},
		{"a Look, an Add, a Sweep", 2, 1, [][]api.Call{
			{lookFor(flow), leaveOf(0), leaveOf(1)}, {addOf(flow, 1)}, {sweepOf(0)},
		}, 2, 1},
		{"a List, an Add and a Drop of two chains", 2, 2, [][]api.Call{
			{listOf(1)}, {addOf(flow, 1), addOf(far, 1)}, {dropOf(flow), dropOf(far)},
		}, 0, 0},
	}
}

// picks: what may be picked next in w.
func (s scene) picks(w api.World) []api.Pick {
	var l []api.Pick
	for i, t := range w.Tasks {
		if t.Busy {
			l = append(l, goesOn(i))
			continue
		}
		for _, c := range s.tasks[i] {
			leaves := c.Kind == api.Leave && slices.Contains(t.Held, c.Slot)
			looks := c.Kind == api.Look && len(t.Held) < s.held
			if leaves || looks || c.Kind != api.Leave && c.Kind != api.Look {
				l = append(l, begins(i, c))
			}
		}
	}
	if w.M.Now < s.until {
		l = append(l, ticks())
	}
	return l
}

// id tells a world apart from all others that go on otherwise: what is left over in the frames of tasks that do nothing is not in it.
func id(w api.World) string {
	s := fmt.Sprint(w.M)
	for _, t := range w.Tasks {
		if s += fmt.Sprint(t.Held); t.Busy {
			s += fmt.Sprint(t.F)
		}
	}
	return s
}

func (s scene) explore(t *testing.T) (worlds, longest int) {
	first := newWorld(t, s.many, s.buckets, len(s.tasks))
	met, todo := map[string]bool{id(first): true}, []api.World{first}
	for len(todo) > 0 {
		w := todo[len(todo)-1]
		todo = todo[:len(todo)-1]
		isRight(t, w)
		longest = max(longest, rounds(t, w, ordersOf(w)[len(met)%2]))
		for _, x := range s.picks(w) {
			v := does(t, w, x)
			stays(t, w, v)
			if n := id(v); !met[n] {
				met[n] = true
				todo = append(todo, v)
			}
		}
	}
	return len(met), longest
}

func TestEachOrderOfPicks(t *testing.T) {
	for _, s := range scenes() {
		t.Run(s.what, func(t *testing.T) {
			t.Parallel()
			if worlds, longest := s.explore(t); worlds < 3000 || longest < 9 {
				t.Errorf("%d worlds, %d rounds at most: too few are told apart", worlds, longest)
			}
		})
	}
}
