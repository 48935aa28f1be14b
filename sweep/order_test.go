package sweep

import (
	"slices"
	"strings"
	"testing"

	"turnstile/add"
	"turnstile/api"
	"turnstile/chain"
	"turnstile/drop"
	"turnstile/frame"
	"turnstile/look"
	"turnstile/mem"
)

// P8.2: each order in which the steps of several calls can follow each other

// tick: time goes on once, as a call of one step.
const tick = -1

// doer: a call (or a tick), where it is, and what was so while it went on.
type doer struct {
	c                      api.Call
	begun                  bool
	at, cur, prev, slot, n int
	keys                   string // as names tells them
	done                   bool
	e                      api.Errno

	// Of a Look, an Add, a Drop: its key ..
	gone  bool    // .. was not mapped
	over  bool    // .. was mapped, and over
	there bool    // .. was mapped
	lasts [3]bool // .. was mapped to that slot, and not over
	came  [3]bool // .. was not mapped ahead of a step, and to that slot behind
	went  bool    // .. was mapped ahead of a step, and not behind, or to another slot

	// Of a Sweep.
	old   [3]api.Flow // what of its chain was over when it began
	since int         // the time when it had the lock
	cuts  int         // how many flows it cut out

	// Of a List: the keys that its chain had at some step, each time as names tells them, between bars.
	saw string
}

func sweeps(b int) doer    { return doer{c: api.Call{Kind: api.Sweep, Bucket: b}} }
func lists(b int) doer     { return doer{c: api.Call{Kind: api.List, Bucket: b}} }
func drops(k api.Key) doer { return doer{c: api.Call{Kind: api.Drop, K: k}} }
func adds(k api.Key) doer  { return doer{c: api.Call{Kind: api.Add, K: k, Time: 1}} }
func looks(k api.Key) doer { return doer{c: api.Call{Kind: api.Look, K: k}} }
func ticks() doer          { return doer{c: api.Call{Kind: tick}} }

// letters: that of each key stands where the key stands in named.
const letters = "fnsa"

var named = [4]api.Key{flow, near, side, far}

// names tells keys by their letters, so that they can be compared.
func names(keys []api.Key) string {
	s := ""
	for _, k := range keys {
		i := slices.Index(named[:], k)
		s += letters[i : i+1]
	}
	return s
}

// keysNamed answers the keys that names tells so.
func keysNamed(s string) []api.Key {
	var l []api.Key
	for i := range len(s) {
		l = append(l, named[strings.IndexByte(letters, s[i])])
	}
	return l
}

func (x doer) frame() api.Frame {
	return api.Frame{C: x.c, At: x.at, Cur: x.cur, Prev: x.prev, Slot: x.slot, N: x.n, Keys: keysNamed(x.keys), Done: x.done, E: x.e}
}

func (x *doer) goesTo(f api.Frame) {
	x.at, x.cur, x.prev, x.slot, x.n, x.keys, x.done, x.e = f.At, f.Cur, f.Prev, f.Slot, f.N, names(f.Keys), f.Done, f.E
}

// goesThroughAChain: a Sweep, a List.
func (x doer) goesThroughAChain() bool { return x.c.Kind == api.Sweep || x.c.Kind == api.List }

// moment of a small world: up to three slots, two chains, up to five calls.
type moment struct {
	m     api.Mem
	doers [5]doer
}

// id: all that a moment is, as a value that can be compared.
type id struct {
	slots        [3]api.Slot
	heads, locks [2]int
	free         [3]int
	now          int
	doers        [5]doer
}

func (x moment) id() id {
	y := id{now: x.m.Now, doers: x.doers}
	copy(y.slots[:], x.m.Slots)
	copy(y.heads[:], x.m.Heads)
	copy(y.locks[:], x.m.Locks)
	for i, a := range x.m.Free {
		y.free[i] = a + 1
	}
	return y
}

// mapped answers what is mapped; chains are to be right at each moment.
func mapped(t *testing.T, m api.Mem) []api.Flow {
	t.Helper()
	l, e := chain.Flows(m)
	if e != api.OK {
		t.Fatalf("chains are not right: %v in %+v", e, m)
	}
	return l
}

// slotOf answers the slot to which k is mapped, -1 if it isn't.
func slotOf(l []api.Flow, k api.Key) int {
	i := slices.IndexFunc(l, func(y api.Flow) bool { return y.K == k })
	if i < 0 {
		return -1
	}
	return l[i].Slot
}

// ofChain answers the flows of chain b.
func ofChain(l []api.Flow, b int) []api.Flow {
	return slices.DeleteFunc(slices.Clone(l), func(y api.Flow) bool { return (y.K == far) != (b == 0) })
}

// begins notes what is over in the chain of a Sweep.
func (x *doer) begins(now int, l []api.Flow) {
	if x.c.Kind != api.Sweep {
		return
	}
	i := 0
	for _, y := range ofChain(l, x.c.Bucket) {
		if y.Until <= now {
			x.old[i] = y
			i++
		}
	}
}

// sees notes how it stands with the key, or with the chain.
func (x *doer) sees(now int, l []api.Flow) {
	if x.c.Kind == api.List {
		var keys []api.Key
		for _, y := range ofChain(l, x.c.Bucket) {
			keys = append(keys, y.K)
		}
		if s := "|" + names(keys) + "|"; !strings.Contains(x.saw, s) {
			x.saw += s
		}
	}
	if x.goesThroughAChain() || x.c.Kind == tick {
		return
	}
	i := slices.IndexFunc(l, func(y api.Flow) bool { return y.K == x.c.K })
	if i < 0 {
		x.gone = true
		return
	}
	x.there = true
	if l[i].Until > now {
		x.lasts[l[i].Slot] = true
	} else {
		x.over = true
	}
}

// seesAStep notes what a step did to the key.
func (x *doer) seesAStep(ahead, behind []api.Flow) {
	if x.goesThroughAChain() || x.c.Kind == tick {
		return
	}
	a, b := slotOf(ahead, x.c.K), slotOf(behind, x.c.K)
	if a >= 0 && b != a {
		x.went = true
	}
	if a < 0 && b >= 0 {
		x.came[b] = true
	}
}

// goesOn: call i begins, or does a step.
func (x moment) goesOn(i int) moment {
	x.m = wholeCopy(x.m)
	d := &x.doers[i]
	f := d.frame()
	switch {
	case !d.begun:
		f.Slot, d.begun = -1, true
	case d.goesThroughAChain():
		f = Step(&x.m, f, i)
	case d.c.Kind == api.Drop:
		f = drop.Step(&x.m, f, i)
	case d.c.Kind == api.Add:
		f = add.Step(&x.m, f, i)
	case d.c.Kind == api.Look:
		f = look.Step(&x.m, f)
	case d.c.Kind == tick:
		x.m.Now++
		f.Done = true
	}
	d.goesTo(f)
	return x
}

// after answers the moment behind a step of call i, with what each call that goes on sees of it.
func (x moment) after(t *testing.T, i int) moment {
	t.Helper()
	y := x.goesOn(i)
	ahead, behind := mapped(t, x.m), mapped(t, y.m)
	if !x.doers[i].begun {
		y.doers[i].begins(y.m.Now, behind)
	}
	for j := range y.doers {
		d := &y.doers[j]
		if !d.begun || x.doers[j].done {
			continue
		}
		d.sees(y.m.Now, behind)
		if x.doers[j].begun {
			d.seesAStep(ahead, behind)
		}
	}
	x.doers[i].changes(t, x.m, ahead, behind)
	y.doers[i].sweepsOn(t, x.doers[i], y.m.Now, behind)
	return y
}

// without: the flows of l that are not among those.
func without(l, those []api.Flow) []api.Flow {
	return slices.DeleteFunc(slices.Clone(l), func(y api.Flow) bool { return slices.Contains(those, y) })
}

// changes: nothing is mapped, or not any more, but by an Add that links, and by a Drop and a Sweep that cut out: that of its own key, that which is over.
func (x doer) changes(t *testing.T, m api.Mem, ahead, behind []api.Flow) {
	t.Helper()
	lost, won := without(ahead, behind), without(behind, ahead)
	right := len(lost) == 0 && len(won) == 0
	switch {
	case x.c.Kind == api.Add && x.begun && x.at == 5:
		right = len(lost) == 0 && len(won) == 1 && won[0] == api.Flow{K: x.c.K, Slot: x.slot, Until: m.Slots[x.slot].Until}
	case x.c.Kind == api.Drop && x.at == 4:
		right = len(lost) == 1 && len(won) == 0 && lost[0].K == x.c.K && lost[0].Slot == x.cur-1
	case x.c.Kind == api.Sweep && x.at == 4:
		right = len(lost) == 1 && len(won) == 0 && lost[0].Slot == x.cur-1 && lost[0].Until <= m.Now && (lost[0].K == far) == (x.c.Bucket == 0)
	}
	if !right || !slices.Equal(without(ahead, lost), without(behind, won)) {
		t.Fatalf("a step of %+v: mapped was %v, is %v", x, ahead, behind)
	}
}

// sweepsOn: a Sweep counts what it puts, and leaves nothing in its chain that was over when it had the lock.
func (x *doer) sweepsOn(t *testing.T, was doer, now int, l []api.Flow) {
	t.Helper()
	if x.c.Kind != api.Sweep {
		return
	}
	inHands := 0
	switch {
	case was.at == 0 && x.at == 1:
		x.since = now
	case was.at == 4:
		x.cuts++
		inHands = 1
	}
	if x.n != x.cuts-inHands {
		t.Fatalf("a Sweep that cut out %d tells of %d: %+v", x.cuts, x.n, x)
	}
	for _, y := range ofChain(l, x.c.Bucket) {
		if x.done && y.Until <= x.since {
			t.Fatalf("a Sweep is done, and left %+v: %+v", y, x)
		}
	}
}

// tells: was it so, what the call was done with?
func (x doer) tells(m api.Mem, l []api.Flow) bool {
	switch {
	case x.c.Kind == api.Sweep:
		return x.e == api.OK && x.slot == -1 && len(without(x.old[:], l)) == len(x.old)
	case x.c.Kind == api.List:
		return x.e == api.OK && x.slot == -1 && x.n == 0 && strings.Contains(x.saw, "|"+x.keys+"|")
	case x.c.Kind == api.Drop && x.e == api.OK:
		return x.went && x.slot == -1
	case x.c.Kind == api.Drop:
		return x.e == api.ErrWho && x.gone && x.slot == -1
	case x.c.Kind == api.Add && x.e == api.OK:
		return x.came[x.slot]
	case x.c.Kind == api.Add && x.e == api.ErrTwice:
		return x.there && x.slot == -1
	case x.c.Kind == api.Add:
		return x.e == api.ErrFull && x.slot == -1
	case x.c.Kind == api.Look && x.e == api.OK:
		return x.lasts[x.slot] && m.Slots[x.slot].Refs > 0 && m.Slots[x.slot].K == x.c.K
	case x.c.Kind == api.Look:
		return x.e == api.ErrWho && (x.gone || x.over) && x.slot == -1
	}
	return true
}

// hasLock: is the call between its taking the lock and its giving it back?
func (x doer) hasLock() bool {
	switch x.c.Kind {
	case api.Sweep, api.List:
		return x.at >= 1 && !x.done
	case api.Drop:
		return 1 <= x.at && x.at <= 5
	case api.Add:
		return x.at >= 2 && !x.done
	}
	return false
}

// holds answers which slot the call holds, -1 if none: what an Add linked, the chain holds, until somebody cuts it out and holds it.
func (x doer) holds() int {
	if !x.begun || x.c.Kind == api.Add && x.at == 7 {
		return -1
	}
	return x.slot
}

// isRight: memory and frames are as chapters 2 to 4 take them, each lock is had by the call that works under it, and each slot is held as often as somebody holds it.
func (x moment) isRight(t *testing.T) {
	t.Helper()
	locks, refs := []int{-1, -1}, make([]int, len(x.m.Slots))
	for i, d := range x.doers {
		if e := frame.Check(x.m, d.frame()); d.begun && d.c.Kind != tick && !d.done && e != api.OK {
			t.Fatalf("a frame is not right: %v, %+v", e, d)
		}
		if b := frame.Bucket(x.m, d.c); d.hasLock() {
			if locks[b] != -1 {
				t.Fatalf("two calls have one lock: %+v", x)
			}
			locks[b] = i
		}
		if a := d.holds(); a >= 0 {
			refs[a]++
		}
	}
	for _, y := range mapped(t, x.m) {
		refs[y.Slot]++
	}
	if !slices.Equal(x.m.Locks, locks) {
		t.Fatalf("locks are not right, should be %v: %+v", locks, x)
	}
	for a, n := range refs {
		if x.m.Slots[a].Refs != n {
			t.Fatalf("slot %d is held by %d: %+v", a, n, x)
		}
	}
}

// comesToAnEnd: calls that go on, each in turn, are all done at some time.
func (x moment) comesToAnEnd(t *testing.T) {
	t.Helper()
	for range 60 {
		busy := false
		for i, d := range x.doers {
			if d.c.Kind != 0 && !d.done {
				x, busy = x.goesOn(i), true
			}
		}
		if !busy {
			return
		}
	}
	t.Fatalf("calls don't come to an end: %+v", x)
}

// end: what a call was done with.
type end struct {
	e    api.Errno
	n    int
	keys string
}

type ends [5]end

func (x moment) ends() ends {
	var y ends
	for i, d := range x.doers {
		y[i] = end{d.e, d.n, d.keys}
	}
	return y
}

// explore goes through all that can follow a moment, and answers each way in which all calls end.
func explore(t *testing.T, first moment) map[ends]int {
	t.Helper()
	out, seen := map[ends]int{}, map[id]int{}
	work := []moment{first}
	for len(work) > 0 {
		x := work[len(work)-1]
		work = work[:len(work)-1]
		at := x.id()
		if seen[at] > 0 {
			continue
		}
		seen[at] = 1
		x.isRight(t)
		x.comesToAnEnd(t)
		l := mapped(t, x.m)
		busy := false
		for i, d := range x.doers {
			if d.done && !d.tells(x.m, l) {
				t.Fatalf("what never was so: call %d of %+v", i, x)
			}
			if d.c.Kind != 0 && !d.done {
				busy = true
				work = append(work, x.after(t, i))
			}
		}
		if !busy {
			out[x.ends()]++
		}
	}
	return out
}

// scene: memory with these flows in it at the time 2, calls in it, and all the ways in which those can end.
type scene struct {
	what  string
	many  int
	flows []api.Flow
	calls []doer
	want  []ends
}

// A flow that is over at the time 2, and one that is so behind a tick.
func isOver(k api.Key) api.Flow { return till(k, 2) }
func isNew(k api.Key) api.Flow  { return till(k, 3) }

var (
	ok    = end{}
	twice = end{e: api.ErrTwice}
	full  = end{e: api.ErrFull}
	who   = end{e: api.ErrWho}
)

func swept(n int) end        { return end{n: n} }
func listed(keys string) end { return end{keys: keys} }

func sweepsAlone() []scene {
	two := []doer{sweeps(1), sweeps(1)}
	old := []api.Flow{isOver(flow), isOver(near)}
	return []scene{
		{"one", 1, []api.Flow{isOver(flow)}, two[:1], []ends{{swept(1)}}},
		{"two, all over", 2, old, two, []ends{{swept(2), swept(0)}, {swept(0), swept(2)}}},
		{"two, an empty chain", 1, nil, two, []ends{{swept(0), swept(0)}}},
		{"two, nothing over", 1, []api.Flow{isNew(flow)}, two, []ends{{swept(0), swept(0)}}},
		{"two, one over, behind what lasts", 2, []api.Flow{isOver(flow), isNew(near)}, two, []ends{{swept(1), swept(0)}, {swept(0), swept(1)}}},
		{"two, one over, ahead of what lasts", 2, []api.Flow{isNew(near), isOver(flow)}, two, []ends{{swept(1), swept(0)}, {swept(0), swept(1)}}},
		{"two chains", 3, []api.Flow{isOver(flow), isOver(far), isOver(near)}, []doer{sweeps(1), sweeps(0)}, []ends{{swept(2), swept(1)}}},
		{"time", 1, []api.Flow{isNew(flow)}, []doer{sweeps(1), ticks()}, []ends{{swept(0)}, {swept(1)}}},
		{"time, two flows", 2, []api.Flow{isNew(flow), isNew(near)}, []doer{sweeps(1), ticks()}, []ends{{swept(0)}, {swept(1)}, {swept(2)}}},
		{"time, between two that are over", 3, []api.Flow{isOver(flow), isNew(near), isOver(side)}, []doer{sweeps(1), ticks()}, []ends{{swept(2)}, {swept(3)}}},
		{"two, and time", 1, []api.Flow{isNew(flow)}, []doer{sweeps(1), sweeps(1), ticks()}, []ends{{swept(0), swept(0)}, {swept(1), swept(0)}, {swept(0), swept(1)}}},
	}
}

func sweepsAndAdds() []scene {
	old, l := []api.Flow{isOver(flow)}, []doer{sweeps(1), adds(flow)}
	either := []ends{{swept(1), ok}, {swept(1), full}}
	return []scene{
		{"an Add", 2, nil, l, []ends{{swept(0), ok}}},
		{"an Add of what is over", 2, old, l, []ends{{swept(1), ok}, {swept(1), twice}}},
		{"an Add of what is over, no slot", 1, old, l, either},
		{"an Add of what is over, behind what lasts", 3, []api.Flow{isOver(flow), isNew(near)}, l, []ends{{swept(1), ok}, {swept(1), twice}}},
		{"an Add of another key", 2, old, []doer{sweeps(1), adds(near)}, []ends{{swept(1), ok}}},
		{"an Add of another key, no slot", 1, old, []doer{sweeps(1), adds(near)}, either},
		{"an Add of another chain, no slot", 1, old, []doer{sweeps(1), adds(far)}, either},
		{"an Add, and time", 1, nil, append(l, ticks()), []ends{{swept(0), ok}, {swept(1), ok}}},
		{"an Add of what is there, and time", 2, []api.Flow{isNew(flow)}, append(l, ticks()), []ends{{swept(0), twice}, {swept(1), twice}, {swept(1), ok}}},
		{"two Adds", 2, old, append(l, adds(flow)), []ends{{swept(1), ok, twice}, {swept(1), twice, ok}, {swept(1), twice, twice}, {swept(1), full, twice}, {swept(1), twice, full}, {swept(1), ok, full}, {swept(1), full, ok}}},
	}
}

func sweepsAndDrops() []scene {
	l := []doer{sweeps(1), drops(flow)}
	return []scene{
		{"a Drop of what is over", 1, []api.Flow{isOver(flow)}, l, []ends{{swept(1), who}, {swept(0), ok}}},
		{"a Drop of what is over, ahead of another one", 2, []api.Flow{isOver(near), isOver(flow)}, l, []ends{{swept(2), who}, {swept(1), ok}}},
		{"a Drop of what is over, behind another one", 2, []api.Flow{isOver(flow), isOver(near)}, l, []ends{{swept(2), who}, {swept(1), ok}}},
		{"a Drop of what lasts, behind what is over", 2, []api.Flow{isNew(flow), isOver(near)}, l, []ends{{swept(1), ok}}},
		{"a Drop of what lasts, between what is over", 3, []api.Flow{isOver(side), isNew(flow), isOver(near)}, l, []ends{{swept(2), ok}}},
		{"a Drop of what is not there", 2, []api.Flow{isOver(near)}, l, []ends{{swept(1), who}}},
		{"a Drop of another chain", 2, []api.Flow{isOver(flow), isOver(far)}, []doer{sweeps(1), drops(far)}, []ends{{swept(1), ok}}},
		{"a Drop, and time", 1, []api.Flow{isNew(flow)}, append(l, ticks()), []ends{{swept(0), ok}, {swept(1), who}}},
		{"a Drop, and another Sweep", 1, []api.Flow{isOver(flow)}, append(l, sweeps(1)), []ends{{swept(1), who, swept(0)}, {swept(0), who, swept(1)}, {swept(0), ok, swept(0)}}},
		{"a Drop and an Add, no slot", 1, []api.Flow{isOver(flow)}, append(l, adds(flow)), []ends{
			{swept(0), ok, ok}, {swept(1), ok, ok}, {swept(1), who, ok}, {swept(1), who, full}, {swept(0), ok, full},
		}},
		{"a Drop and an Add", 2, []api.Flow{isOver(flow)}, append(l, adds(flow)), []ends{
			{swept(0), ok, ok}, {swept(1), ok, ok}, {swept(1), who, ok}, {swept(1), who, twice}, {swept(0), ok, twice},
		}},
	}
}

func sweepsAndLooks() []scene {
	l := []doer{sweeps(1), looks(flow)}
	return []scene{
		{"a Look for what is over", 1, []api.Flow{isOver(flow)}, l, []ends{{swept(1), who}}},
		{"a Look, behind what is over", 2, []api.Flow{isNew(flow), isOver(near)}, l, []ends{{swept(1), ok}}},
		{"a Look, ahead of what is over", 2, []api.Flow{isOver(near), isNew(flow)}, l, []ends{{swept(1), ok}}},
		{"a Look, behind two that are over", 3, []api.Flow{isNew(flow), isOver(near), isOver(side)}, l, []ends{{swept(2), ok}}},
		{"a Look for what is not there", 2, []api.Flow{isOver(near), isOver(side)}, l, []ends{{swept(2), who}}},
		{"a Look in another chain", 2, []api.Flow{isOver(near), isNew(far)}, []doer{sweeps(1), looks(far)}, []ends{{swept(1), ok}}},
		{"a Look, and time", 1, []api.Flow{isNew(flow)}, append(l, ticks()), []ends{{swept(0), ok}, {swept(0), who}, {swept(1), ok}, {swept(1), who}}},
		{"a Look, another Sweep, and time", 2, []api.Flow{isNew(flow), isOver(near)}, append(l, sweeps(1), ticks()), []ends{
			{swept(1), ok, swept(0)}, {swept(1), who, swept(0)}, {swept(2), ok, swept(0)}, {swept(2), who, swept(0)}, {swept(1), ok, swept(1)}, {swept(1), who, swept(1)},
			{swept(0), ok, swept(1)}, {swept(0), who, swept(1)}, {swept(0), ok, swept(2)}, {swept(0), who, swept(2)},
		}},
		{"a Look, and a Drop of what is ahead", 2, []api.Flow{isNew(flow), isOver(near)}, append(l, drops(near)), []ends{{swept(1), ok, who}, {swept(0), ok, ok}}},
		{"a Look, and a Drop of the same key", 1, []api.Flow{isOver(flow)}, append(l, drops(flow)), []ends{{swept(1), who, who}, {swept(0), who, ok}}},
	}
}

func sweepsAddsAndLooks() []scene {
	l := []doer{sweeps(1), looks(flow)}
	ahead := []api.Flow{isNew(flow), isOver(near)}
	found := []ends{{swept(1), ok, ok}, {swept(1), ok, full}}
	return []scene{
		{"the slot ahead being taken for another chain", 2, ahead, append(l, adds(far)), found},
		{"the slot ahead being taken for the same chain", 2, ahead, append(l, adds(side)), found},
		{"the slot ahead being taken for the same key", 2, ahead, append(l, adds(near)), found},
		{"its slot being taken for another chain", 1, []api.Flow{isOver(flow)}, append(l, adds(far)), []ends{{swept(1), who, ok}, {swept(1), who, full}}},
		{"its slot being taken for it again", 1, []api.Flow{isOver(flow)}, append(l, adds(flow)), []ends{{swept(1), ok, ok}, {swept(1), who, ok}, {swept(1), who, full}}},
		{"another slot being taken for it", 2, []api.Flow{isOver(flow)}, append(l, adds(flow)), []ends{{swept(1), ok, ok}, {swept(1), who, ok}, {swept(1), who, twice}}},
		{"its slot being taken for it again, and time", 1, []api.Flow{isOver(flow)}, append(l, adds(flow), ticks()), []ends{{swept(1), ok, ok}, {swept(1), who, ok}, {swept(1), who, full}}},
		{"what is added, and time", 1, nil, append(l, adds(flow), ticks()), []ends{{swept(0), ok, ok}, {swept(0), who, ok}, {swept(1), ok, ok}, {swept(1), who, ok}}},
		{"an Add and a Drop", 1, []api.Flow{isOver(flow)}, append(l, adds(flow), drops(flow)), []ends{
			{swept(0), ok, ok, ok}, {swept(0), who, ok, ok}, {swept(1), ok, ok, ok}, {swept(1), who, ok, ok}, {swept(1), ok, ok, who}, {swept(1), who, ok, who},
			{swept(1), who, full, who}, {swept(0), who, full, ok},
		}},
	}
}

func listsAndOthers() []scene {
	l := []doer{lists(1)}
	two := []api.Flow{isNew(flow), isNew(near)}
	return []scene{
		{"a List of an empty chain", 2, nil, l, []ends{{listed("")}}},
		{"a List", 3, append(two, isNew(side)), l, []ends{{listed("snf")}}},
		{"two Lists", 2, two, append(l, lists(1)), []ends{{listed("nf"), listed("nf")}}},
		{"Lists of two chains", 3, append(two, isNew(far)), append(l, lists(0)), []ends{{listed("nf"), listed("a")}}},
		{"a List, and time", 2, two, append(l, ticks()), []ends{{listed("nf")}}},
		{"a List and a Look", 2, two, append(l, looks(flow)), []ends{{listed("nf"), ok}}},
		{"a List and an Add", 1, nil, append(l, adds(flow)), []ends{{listed(""), ok}, {listed("f"), ok}}},
		{"a List and an Add, beside another one", 2, []api.Flow{isNew(near)}, append(l, adds(flow)), []ends{{listed("n"), ok}, {listed("fn"), ok}}},
		{"a List and an Add of what is there", 2, []api.Flow{isNew(flow)}, append(l, adds(flow)), []ends{{listed("f"), twice}}},
		{"a List and a Drop of the last one", 2, two, append(l, drops(flow)), []ends{{listed("nf"), ok}, {listed("n"), ok}}},
		{"a List and a Drop of the first one", 2, two, append(l, drops(near)), []ends{{listed("nf"), ok}, {listed("f"), ok}}},
		{"a List, an Add and a Drop", 2, []api.Flow{isNew(flow)}, append(l, adds(near), drops(flow)), []ends{
			{listed("f"), ok, ok}, {listed("nf"), ok, ok}, {listed("n"), ok, ok}, {listed(""), ok, ok},
		}},
		{"a List, an Add and a Drop, no slot", 1, []api.Flow{isNew(flow)}, append(l, adds(near), drops(flow)), []ends{
			{listed("f"), ok, ok}, {listed("n"), ok, ok}, {listed(""), ok, ok}, {listed("f"), full, ok}, {listed(""), full, ok},
		}},
		{"a List, an Add and a Drop of one key", 2, []api.Flow{isNew(flow)}, append(l, adds(flow), drops(flow)), []ends{
			{listed("f"), ok, ok}, {listed(""), ok, ok}, {listed("f"), twice, ok}, {listed(""), twice, ok},
		}},
		{"a List, an Add, a Drop and a Look", 2, []api.Flow{isNew(flow)}, append(l, adds(near), drops(flow), looks(near)), []ends{
			{listed("f"), ok, ok, ok}, {listed("nf"), ok, ok, ok}, {listed("n"), ok, ok, ok}, {listed(""), ok, ok, ok},
			{listed("f"), ok, ok, who}, {listed("nf"), ok, ok, who}, {listed("n"), ok, ok, who}, {listed(""), ok, ok, who},
		}},
	}
}

// A List beside a Sweep has all of what that cuts out, or none of it.
func listsAndSweeps() []scene {
	l := []doer{lists(1), sweeps(1)}
	old := []api.Flow{isOver(flow), isOver(near)}
	return []scene{
		{"all over", 2, old, l, []ends{{listed("nf"), swept(2)}, {listed(""), swept(2)}}},
		{"nothing over", 2, []api.Flow{isNew(flow), isNew(near)}, l, []ends{{listed("nf"), swept(0)}}},
		{"the last one over", 2, []api.Flow{isOver(flow), isNew(near)}, l, []ends{{listed("nf"), swept(1)}, {listed("n"), swept(1)}}},
		{"the first one over", 2, []api.Flow{isNew(flow), isOver(near)}, l, []ends{{listed("nf"), swept(1)}, {listed("f"), swept(1)}}},
		{"two of three over", 3, []api.Flow{isOver(flow), isNew(near), isOver(side)}, l, []ends{{listed("snf"), swept(2)}, {listed("n"), swept(2)}}},
		{"a Sweep of another chain", 2, []api.Flow{isOver(flow), isOver(far)}, []doer{lists(1), sweeps(0)}, []ends{{listed("f"), swept(1)}}},
		{"time", 2, []api.Flow{isNew(flow), isNew(near)}, append(l, ticks()), []ends{
			{listed("nf"), swept(0)}, {listed("nf"), swept(1)}, {listed("n"), swept(1)}, {listed("nf"), swept(2)}, {listed(""), swept(2)},
		}},
		{"another List", 2, old, append(l, lists(1)), []ends{
			{listed("nf"), swept(2), listed("nf")}, {listed("nf"), swept(2), listed("")}, {listed(""), swept(2), listed("nf")}, {listed(""), swept(2), listed("")},
		}},
		{"an Add", 2, []api.Flow{isOver(flow)}, append(l, adds(near)), []ends{
			{listed("f"), swept(1), ok}, {listed("nf"), swept(1), ok}, {listed(""), swept(1), ok}, {listed("n"), swept(1), ok},
		}},
		{"a Drop", 2, []api.Flow{isOver(flow), isNew(near)}, append(l, drops(near)), []ends{
			{listed("nf"), swept(1), ok}, {listed("n"), swept(1), ok}, {listed("f"), swept(1), ok}, {listed(""), swept(1), ok},
		}},
		{"a Look", 2, []api.Flow{isNew(flow), isOver(near)}, append(l, looks(flow)), []ends{{listed("nf"), swept(1), ok}, {listed("f"), swept(1), ok}}},
		{"an Add and a Drop", 3, []api.Flow{isOver(flow), isNew(near)}, append(l, adds(side), drops(near)), []ends{
			{listed("nf"), swept(1), ok, ok}, {listed("n"), swept(1), ok, ok}, {listed("f"), swept(1), ok, ok}, {listed(""), swept(1), ok, ok},
			{listed("snf"), swept(1), ok, ok}, {listed("sn"), swept(1), ok, ok}, {listed("sf"), swept(1), ok, ok}, {listed("s"), swept(1), ok, ok},
		}},
	}
}

// allOf answers each choice of one end for each call.
func allOf(choices ...[]end) []ends {
	l := []ends{{}}
	for i, c := range choices {
		var longer []ends
		for _, x := range l {
			for _, y := range c {
				x[i] = y
				longer = append(longer, x)
			}
		}
		l = longer
	}
	return l
}

// All five kinds at once, one of each: a Sweep, a Drop, an Add, a List, a Look.
func allKinds() []scene {
	calls := []doer{sweeps(1), drops(near), adds(side), lists(1), looks(flow)}
	ahead := []api.Flow{isNew(flow), isOver(near)}
	one, none, found := []end{swept(1)}, []end{swept(0)}, []end{ok}
	keys := func(l ...string) []end {
		var out []end
		for _, s := range l {
			out = append(out, listed(s))
		}
		return out
	}
	slot := keys("nf", "f", "snf", "sf")
	same := []doer{sweeps(1), drops(flow), adds(flow), lists(1), looks(flow)}
	return []scene{
		{"what is ahead is over", 3, ahead, calls, slices.Concat(
			allOf(one, []end{who}, []end{ok}, slot, found),
			allOf(none, []end{ok}, []end{ok}, slot, found),
		)},
		{"what is ahead is over, no slot", 2, ahead, calls, slices.Concat(
			allOf(one, []end{who}, []end{ok}, keys("nf", "f", "sf"), found),
			allOf(none, []end{ok}, []end{ok}, keys("nf", "f", "sf"), found),
			allOf(one, []end{who}, []end{full}, keys("nf", "f"), found),
			allOf(none, []end{ok}, []end{full}, keys("nf", "f"), found),
		)},
		{"one key", 2, []api.Flow{isOver(flow)}, same, slices.Concat(
			allOf(one, []end{ok, who}, []end{ok}, keys("f", ""), []end{ok, who}),
			allOf(none, []end{ok}, []end{ok}, keys("f", ""), []end{ok, who}),
			allOf(one, []end{who}, []end{twice}, keys("f", ""), []end{who}),
			allOf(none, []end{ok}, []end{twice}, keys("f", ""), []end{who}),
		)},
	}
}

func TestEachOrderOfSteps(t *testing.T) {
	for _, x := range slices.Concat(sweepsAlone(), sweepsAndAdds(), sweepsAndDrops(), sweepsAndLooks(), sweepsAddsAndLooks(), listsAndOthers(), listsAndSweeps(), allKinds()) {
		first := moment{m: mapping(t, x.many, 2, x.flows...)}
		first.m.Now = 2
		copy(first.doers[:], x.calls)
		got := explore(t, first)
		for _, y := range x.want {
			if got[y] == 0 {
				t.Errorf("%s: no order ends with %v", x.what, y)
			}
			delete(got, y)
		}
		for y := range got {
			t.Errorf("%s: an order ends with %v", x.what, y)
		}
	}
}

// A Look stands at a slot while that is swept

// stepsOf does so many steps of a Look for flow.
func stepsOf(m *api.Mem, many int) api.Frame {
	f := frame.New(api.Call{Kind: api.Look, K: flow})
	for range many {
		f = look.Step(m, f)
	}
	return f
}

// goesToItsEnd does steps of a Look, or of an Add of another task, until it is done.
func goesToItsEnd(t *testing.T, m *api.Mem, f api.Frame) api.Frame {
	t.Helper()
	for range 30 {
		if f.C.Kind == api.Add {
			f = add.Step(m, f, 3)
		} else {
			f = look.Step(m, f)
		}
		if f.Done {
			return f
		}
	}
	t.Fatalf("a call isn't done: %+v in %+v", f, *m)
	return f
}

// Who stands at what is swept goes on from there: what stood behind it is still behind it.
func TestLookAtWhatIsSwept(t *testing.T) {
	m := mapping(t, 2, 2, isNew(flow), isOver(near))
	m.Now = 2
	f := stepsOf(&m, 2)
	if f.Cur != 2 || f.At != 2 {
		t.Fatalf("the Look doesn't stand at near's slot: %+v", f)
	}
	alone(t, &m, newSweep(1))
	if !slices.Equal(m.Free, []int{1}) {
		t.Fatalf("near's slot is not free: %+v", m)
	}
	if f = look.Step(&m, f); f.Cur != 1 {
		t.Errorf("the Look doesn't come to flow's slot: %+v", f)
	}
	if f = goesToItsEnd(t, &m, f); f.E != api.OK || f.Slot != 0 {
		t.Errorf("the Look doesn't find flow: %+v", f)
	}
}

// Who stands at what was swept, and taken for another chain, comes to that chain's end, and begins anew.
func TestLookAtWhatIsSweptAndTakenAgain(t *testing.T) {
	m := mapping(t, 2, 2, isNew(flow), isOver(near))
	m.Now = 2
	f := stepsOf(&m, 2)
	alone(t, &m, newSweep(1))
	a := goesToItsEnd(t, &m, frame.New(api.Call{Kind: api.Add, K: far, Time: 5}))
	if a.E != api.OK || a.Slot != 1 {
		t.Fatalf("far has another slot: %+v", a)
	}
	if f = look.Step(&m, f); f.Cur != -1 {
		t.Errorf("the Look doesn't come to the other chain's end: %+v", f)
	}
	if f = look.Step(&m, f); f.At != 0 || f.Done {
		t.Errorf("the Look doesn't begin anew: %+v", f)
	}
	if f = goesToItsEnd(t, &m, f); f.E != api.OK || f.Slot != 0 {
		t.Errorf("the Look doesn't find flow: %+v", f)
	}
}

// Who is about to hold what was swept can't, for it is free.
func TestLookThatWouldHoldWhatIsSwept(t *testing.T) {
	m := mapping(t, 2, 2, isOver(flow))
	m.Now = 2
	f := stepsOf(&m, 2)
	alone(t, &m, newSweep(1))
	if f = look.Step(&m, f); f.At != 0 || f.Slot != -1 {
		t.Errorf("the Look holds what is free: %+v", f)
	}
	if f = goesToItsEnd(t, &m, f); f.E != api.ErrWho || f.Slot != -1 {
		t.Errorf("the Look finds what is swept: %+v", f)
	}
}

// Who holds what is swept keeps it from being free until they put it.
func TestLookThatHoldsWhatIsSwept(t *testing.T) {
	for _, steps := range []int{3, 4} { // held, and found
		m := mapping(t, 1, 2, isNew(flow))
		m.Now = 2
		f := stepsOf(&m, steps)
		if f.Slot != 0 || f.Done != (steps == 4) {
			t.Fatalf("the Look doesn't hold flow's slot: %+v", f)
		}
		m.Now = 3
		if g, _ := alone(t, &m, newSweep(1)); g.N != 1 || len(m.Free) != 0 || m.Slots[0].Refs != 1 || m.Heads[1] != -2 {
			t.Errorf("swept while held: %+v in %+v", g, m)
		}
		a := add.Step(&m, frame.New(api.Call{Kind: api.Add, K: near, Time: 1}), 3)
		if a.E != api.ErrFull {
			t.Errorf("what is held is taken: %+v in %+v", a, m)
		}
		if f.Done {
			continue
		}
		if f = goesToItsEnd(t, &m, f); f.E != api.ErrWho || f.Slot != -1 || !slices.Equal(m.Free, []int{0}) {
			t.Errorf("the Look finds what is over: %+v in %+v", f, m)
		}
	}
}

// What an Add has taken but not linked yet is not mapped: a Sweep that ends ahead of the linking doesn't meet it, though it is over by then; the next one does.
func TestSweepAheadOfALinking(t *testing.T) {
	m, _ := mem.New(1, 2)
	a := add.Step(&m, frame.New(api.Call{Kind: api.Add, K: flow, Time: 1}), 3)
	m.Now = 1
	if f, _ := alone(t, &m, newSweep(1)); f.N != 0 {
		t.Errorf("swept what is not mapped: %+v", f)
	}
	if a = goesToItsEnd(t, &m, a); a.E != api.OK {
		t.Fatalf("not added: %+v", a)
	}
	if f, _ := alone(t, &m, newSweep(1)); f.N != 1 || !slices.Equal(m.Free, []int{0}) {
		t.Errorf("not swept: %+v in %+v", f, m)
	}
}
