package drop

import (
	"slices"
	"testing"

	"turnstile/add"
	"turnstile/api"
	"turnstile/chain"
	"turnstile/frame"
	"turnstile/key"
	"turnstile/look"
)

// P7.2: each order in which the steps of several calls can follow each other

// tick: time goes on once, as a call of one step.
const tick = -1

// doer: a call (a Drop, an Add, a Look, a tick), where it is, and what was so of its key while it went on.
type doer struct {
	kind                int
	k                   api.Key
	begun               bool
	at, cur, prev, slot int
	done                bool
	e                   api.Errno
	gone                bool    // it was not mapped
	over                bool    // it was mapped, and over
	there               bool    // it was mapped
	lasts               [3]bool // it was mapped to that slot, and not over
	came                [3]bool // it was not mapped ahead of a step, and to that slot behind
	went                bool    // it was mapped ahead of a step, and not behind, or to another slot
}

func drops(k api.Key) doer { return doer{kind: api.Drop, k: k} }
func adds(k api.Key) doer  { return doer{kind: api.Add, k: k} }
func looks(k api.Key) doer { return doer{kind: api.Look, k: k} }
func ticks() doer          { return doer{kind: tick} }

func (x doer) frame() api.Frame {
	return api.Frame{C: api.Call{Kind: x.kind, K: x.k, Time: 1}, At: x.at, Cur: x.cur, Prev: x.prev, Slot: x.slot, Done: x.done, E: x.e}
}

func (x *doer) goesTo(f api.Frame) {
	x.at, x.cur, x.prev, x.slot, x.done, x.e = f.At, f.Cur, f.Prev, f.Slot, f.Done, f.E
}

// moment of a small world: up to three slots, two chains, up to four calls.
type moment struct {
	m     api.Mem
	doers [4]doer
}

// id: all that a moment is, as a value that can be compared.
type id struct {
	slots        [3]api.Slot
	heads, locks [2]int
	free         [3]int
	now          int
	doers        [4]doer
}

func (x moment) id() id {
	y := id{now: x.m.Now, doers: x.doers}
	copy(y.slots[:], x.m.Slots)
	copy(y.heads[:], x.m.Heads)
	copy(y.locks[:], x.m.Locks)
	for i, a := range x.m.Free {
		y.free[i] = a + 1
	}
	return y
}

// mapped answers what is mapped; chains are to be right at each moment.
func mapped(t *testing.T, m api.Mem) []api.Flow {
	t.Helper()
	l, e := chain.Flows(m)
	if e != api.OK {
		t.Fatalf("chains are not right: %v in %+v", e, m)
	}
	return l
}

// slotOf answers the slot to which k is mapped, -1 if it isn't.
func slotOf(l []api.Flow, k api.Key) int {
	i := slices.IndexFunc(l, func(y api.Flow) bool { return y.K == k })
	if i < 0 {
		return -1
	}
	return l[i].Slot
}

// sees notes how it stands with the key.
func (x *doer) sees(m api.Mem, l []api.Flow) {
	a := slotOf(l, x.k)
	if a < 0 {
		x.gone = true
		return
	}
	x.there = true
	if m.Slots[a].Until > m.Now {
		x.lasts[a] = true
	} else {
		x.over = true
	}
}

// seesAStep notes what a step did to the key.
func (x *doer) seesAStep(ahead, behind []api.Flow) {
	a, b := slotOf(ahead, x.k), slotOf(behind, x.k)
	if a >= 0 && b != a {
		x.went = true
	}
	if a < 0 && b >= 0 {
		x.came[b] = true
	}
}

// goesOn: call i begins, or does a step.
func (x moment) goesOn(i int) moment {
	x.m = wholeCopy(x.m)
	d := &x.doers[i]
	f := d.frame()
	switch {
	case !d.begun:
		f.Slot, d.begun = -1, true
	case d.kind == api.Drop:
		f = Step(&x.m, f, i)
	case d.kind == api.Add:
		f = add.Step(&x.m, f, i)
	case d.kind == api.Look:
		f = look.Step(&x.m, f)
	case d.kind == tick:
		x.m.Now++
		f.Done = true
	}
	d.goesTo(f)
	return x
}

// after answers the moment behind a step of call i, with what each call that goes on sees of it.
func (x moment) after(t *testing.T, i int) moment {
	t.Helper()
	y := x.goesOn(i)
	ahead, behind := mapped(t, x.m), mapped(t, y.m)
	for j := range y.doers {
		d := &y.doers[j]
		if !d.begun || x.doers[j].done {
			continue
		}
		d.sees(y.m, behind)
		if x.doers[j].begun {
			d.seesAStep(ahead, behind)
		}
	}
	x.doers[i].maps(t, ahead, behind)
	return y
}

// others: the flows of other keys than k.
func others(l []api.Flow, k api.Key) []api.Flow {
	return slices.DeleteFunc(slices.Clone(l), func(y api.Flow) bool { return y.K == k })
}

// maps: nothing is mapped, or not any more, but by an Add that links and by a Drop that cuts out, and that of their own key alone.
func (x doer) maps(t *testing.T, ahead, behind []api.Flow) {
	t.Helper()
	was, is := slotOf(ahead, x.k), slotOf(behind, x.k)
	right := was == is
	if x.kind == api.Add && x.at == 5 {
		right = was == -1 && is == x.slot
	}
	if x.kind == api.Drop && x.at == 4 {
		right = was == x.cur-1 && is == -1
	}
	if !right || !slices.Equal(others(ahead, x.k), others(behind, x.k)) {
		t.Fatalf("a step of %+v: mapped was %v, is %v", x, ahead, behind)
	}
}

// tells: was it so, what the call was done with?
func (x doer) tells(m api.Mem) bool {
	switch {
	case x.kind == api.Drop && x.e == api.OK:
		return x.went && x.slot == -1
	case x.kind == api.Drop:
		return x.e == api.ErrWho && x.gone && x.slot == -1
	case x.kind == api.Add && x.e == api.OK:
		return x.came[x.slot]
	case x.kind == api.Add && x.e == api.ErrTwice:
		return x.there && x.slot == -1
	case x.kind == api.Add:
		return x.e == api.ErrFull && x.slot == -1
	case x.kind == api.Look && x.e == api.OK:
		return x.lasts[x.slot] && m.Slots[x.slot].Refs > 0 && m.Slots[x.slot].K == x.k
	case x.kind == api.Look:
		return x.e == api.ErrWho && (x.gone || x.over) && x.slot == -1
	}
	return true
}

// hasLock: is the call between its taking the lock and its giving it back?
func (x doer) hasLock() bool {
	switch x.kind {
	case api.Drop:
		return 1 <= x.at && x.at <= 5
	case api.Add:
		return x.at >= 2 && !x.done
	}
	return false
}

// holds answers which slot the call holds, -1 if none: what an Add linked, the chain holds, until a Drop cuts it out and holds it.
func (x doer) holds() int {
	if !x.begun || x.kind == api.Add && x.at == 7 {
		return -1
	}
	return x.slot
}

// isRight: memory and frames are as chapters 2 to 4 take them, each lock is had by the call that works under it, and each slot is held as often as somebody holds it.
func (x moment) isRight(t *testing.T) {
	t.Helper()
	locks, refs := []int{-1, -1}, make([]int, len(x.m.Slots))
	for i, d := range x.doers {
		if e := frame.Check(x.m, d.frame()); d.begun && d.kind != tick && !d.done && e != api.OK {
			t.Fatalf("a frame is not right: %v, %+v", e, d)
		}
		if b, _ := key.Bucket(d.k, 2); d.hasLock() {
			if locks[b] != -1 {
				t.Fatalf("two calls have one lock: %+v", x)
			}
			locks[b] = i
		}
		if a := d.holds(); a >= 0 {
			refs[a]++
		}
	}
	for _, y := range mapped(t, x.m) {
		refs[y.Slot]++
	}
	if !slices.Equal(x.m.Locks, locks) {
		t.Fatalf("locks are not right, should be %v: %+v", locks, x)
	}
	for a, n := range refs {
		if x.m.Slots[a].Refs != n {
			t.Fatalf("slot %d is held by %d: %+v", a, n, x)
		}
	}
}

// comesToAnEnd: calls that go on, each in turn, are all done at some time.
func (x moment) comesToAnEnd(t *testing.T) {
	t.Helper()
	for range 60 {
		busy := false
		for i, d := range x.doers {
			if d.kind != 0 && !d.done {
				x, busy = x.goesOn(i), true
			}
		}
		if !busy {
			return
		}
	}
	t.Fatalf("calls don't come to an end: %+v", x)
}

// ends: what each call was done with.
type ends [4]api.Errno

func (x moment) ends() ends {
	var y ends
	for i, d := range x.doers {
		y[i] = d.e
	}
	return y
}

// explore goes through all that can follow a moment, and answers each way in which all calls end.
func explore(t *testing.T, first moment) map[ends]int {
	t.Helper()
	out, seen := map[ends]int{}, map[id]int{}
	work := []moment{first}
	for len(work) > 0 {
		x := work[len(work)-1]
		work = work[:len(work)-1]
		if seen[x.id()]++; seen[x.id()] > 1 {
			continue
		}
		x.isRight(t)
		x.comesToAnEnd(t)
		busy := false
		for i, d := range x.doers {
			if d.done && !d.tells(x.m) {
				t.Fatalf("what never was so: call %d of %+v", i, x)
			}
			if d.kind != 0 && !d.done {
				busy = true
				work = append(work, x.after(t, i))
			}
		}
		if !busy {
			out[x.ends()]++
		}
	}
	return out
}

// scene: memory with these flows in it, calls in it, and all the ways in which those can end.
type scene struct {
	what  string
	many  int
	keys  []api.Key
	calls []doer
	want  []ends
}

const (
	ok    = api.OK
	twice = api.ErrTwice
	full  = api.ErrFull
	who   = api.ErrWho
)

func dropsAlone() []scene {
	one := []doer{drops(flow), drops(flow)}
	two := []doer{drops(flow), drops(near)}
	apart := []doer{drops(flow), drops(far)}
	either := []ends{{ok, who}, {who, ok}}
	return []scene{
		{"one key", 1, []api.Key{flow}, one, either},
		{"one key, ahead of another one", 3, []api.Key{near, flow}, one, either},
		{"one key, behind another one", 3, []api.Key{flow, near}, one, either},
		{"one key, between two", 3, []api.Key{side, flow, near}, one, either},
		{"one key that is not there", 1, nil, one, []ends{{who, who}}},
		{"one key that is not there, beside others", 2, []api.Key{near, side}, one, []ends{{who, who}}},
		{"three of one key", 2, []api.Key{flow, near}, append(one, drops(flow)), []ends{{ok, who, who}, {who, ok, who}, {who, who, ok}}},
		{"two keys of one chain", 2, []api.Key{flow, near}, two, []ends{{ok, ok}}},
		{"two keys of one chain, the other way round", 2, []api.Key{near, flow}, two, []ends{{ok, ok}}},
		{"two keys of one chain, ahead of another one", 3, []api.Key{side, flow, near}, two, []ends{{ok, ok}}},
		{"two keys of one chain, behind another one", 3, []api.Key{flow, near, side}, two, []ends{{ok, ok}}},
		{"two keys of one chain, another one between", 3, []api.Key{near, side, flow}, two, []ends{{ok, ok}}},
		{"two keys of one chain, one not being there", 2, []api.Key{flow}, two, []ends{{ok, who}}},
		{"two keys of one chain, none being there", 2, []api.Key{side}, two, []ends{{who, who}}},
		{"three keys of one chain", 3, []api.Key{flow, near, side}, append(two, drops(side)), []ends{{ok, ok, ok}}},
		{"three, two being of one key", 3, []api.Key{flow, near}, append(two, drops(flow)), []ends{{ok, ok, who}, {who, ok, ok}}},
		{"two chains", 3, []api.Key{flow, far}, apart, []ends{{ok, ok}}},
		{"two chains, one being empty", 3, []api.Key{far}, apart, []ends{{who, ok}}},
	}
}

func dropsAndAdds() []scene {
	l := []doer{drops(flow), adds(flow)}
	return []scene{
		{"an Add", 1, nil, l, []ends{{ok, ok}, {who, ok}}},
		{"an Add, two slots", 2, nil, l, []ends{{ok, ok}, {who, ok}}},
		{"an Add, no slot", 0, nil, l, []ends{{who, full}}},
		{"an Add, beside another one", 2, []api.Key{near}, l, []ends{{ok, ok}, {who, ok}}},
		{"an Add of what is there", 2, []api.Key{flow}, l, []ends{{ok, ok}, {ok, twice}}},
		{"an Add of what is there, no slot", 1, []api.Key{flow}, l, []ends{{ok, ok}, {ok, full}}},
		{"an Add of what is there, beside another one", 3, []api.Key{flow, near}, l, []ends{{ok, ok}, {ok, twice}}},
		{"an Add of the same chain", 2, []api.Key{flow}, []doer{drops(flow), adds(near)}, []ends{{ok, ok}}},
		{"an Add of the same chain, no slot", 1, []api.Key{flow}, []doer{drops(flow), adds(near)}, []ends{{ok, ok}, {ok, full}}},
		{"an Add of another chain, no slot", 1, []api.Key{flow}, []doer{drops(flow), adds(far)}, []ends{{ok, ok}, {ok, full}}},
		{"an Add and another Drop", 1, nil, append(l, drops(flow)), []ends{{ok, ok, who}, {who, ok, ok}, {who, ok, who}}},
		{"an Add of what is there, and another Drop", 2, []api.Key{flow}, append(l, drops(flow)), []ends{{ok, ok, ok}, {ok, ok, who}, {who, ok, ok}, {ok, twice, who}, {who, twice, ok}}},
		{"an Add of what is there, no slot, and another Drop", 1, []api.Key{flow}, append(l, drops(flow)), []ends{{ok, ok, ok}, {ok, ok, who}, {who, ok, ok}, {ok, full, who}, {who, full, ok}}},
		{"an Add, and a Drop of another key", 2, []api.Key{near}, append(l, drops(near)), []ends{{ok, ok, ok}, {who, ok, ok}}},
		{"two Adds", 2, nil, append(l, adds(flow)), []ends{{ok, ok, twice}, {ok, twice, ok}, {who, ok, twice}, {who, twice, ok}, {ok, ok, ok}}},
	}
}

func dropsAndLooks() []scene {
	l := []doer{drops(flow), looks(flow)}
	either := []ends{{ok, ok}, {ok, who}}
	return []scene{
		{"a Look", 1, []api.Key{flow}, l, either},
		{"a Look, behind another one", 2, []api.Key{flow, near}, l, either},
		{"a Look, ahead of another one", 2, []api.Key{near, flow}, l, either},
		{"a Look of what is not there", 2, nil, l, []ends{{who, who}}},
		{"a Look of what is not there, beside another one", 2, []api.Key{near}, l, []ends{{who, who}}},
		{"a Look of another key", 2, []api.Key{flow, near}, []doer{drops(near), looks(flow)}, []ends{{ok, ok}}},
		{"a Look of another key, the other way round", 2, []api.Key{near, flow}, []doer{drops(near), looks(flow)}, []ends{{ok, ok}}},
		{"a Look, and time", 1, []api.Key{flow}, append(l, ticks()), either},
		{"a Look, and another Drop", 1, []api.Key{flow}, append(l, drops(flow)), []ends{{ok, ok, who}, {ok, who, who}, {who, ok, ok}, {who, who, ok}}},
		{"two Looks", 2, []api.Key{flow, near}, append(l, looks(flow)), []ends{{ok, ok, ok}, {ok, ok, who}, {ok, who, ok}, {ok, who, who}}},
		{"a Look, both keys ahead of it being dropped", 3, []api.Key{flow, near, side}, []doer{drops(near), looks(flow), drops(side)}, []ends{{ok, ok, ok}}},
	}
}

func dropsAddsAndLooks() []scene {
	return []scene{
		{"its slot being taken for another chain", 1, []api.Key{flow}, []doer{drops(flow), adds(far), looks(flow)}, []ends{{ok, ok, who}, {ok, full, ok}, {ok, full, who}}},
		{"its slot being taken for the same chain", 1, []api.Key{flow}, []doer{drops(flow), adds(near), looks(flow)}, []ends{{ok, ok, who}, {ok, full, ok}, {ok, full, who}}},
		{"its slot being taken for it again", 1, []api.Key{flow}, []doer{drops(flow), adds(flow), looks(flow)}, []ends{{ok, ok, ok}, {ok, ok, who}, {ok, full, ok}, {ok, full, who}}},
		{"another slot being taken for it again", 2, []api.Key{flow}, []doer{drops(flow), adds(flow), looks(flow)}, []ends{{ok, ok, ok}, {ok, ok, who}, {ok, twice, ok}, {ok, twice, who}}},
		{"the slot ahead of it being taken for another chain", 2, []api.Key{flow, near}, []doer{drops(near), adds(far), looks(flow)}, []ends{{ok, ok, ok}, {ok, full, ok}}},
		{"the slot ahead of it being taken for the same chain", 2, []api.Key{flow, near}, []doer{drops(near), adds(side), looks(flow)}, []ends{{ok, ok, ok}, {ok, full, ok}}},
		{"what is added", 1, nil, []doer{drops(flow), adds(flow), looks(flow)}, []ends{{ok, ok, ok}, {ok, ok, who}, {who, ok, ok}, {who, ok, who}}},
		{"what is added, and time", 1, nil, []doer{drops(flow), adds(flow), looks(flow), ticks()}, []ends{{ok, ok, ok}, {ok, ok, who}, {who, ok, ok}, {who, ok, who}}},
		{"two Drops", 1, []api.Key{flow}, []doer{drops(flow), adds(flow), looks(flow), drops(flow)}, []ends{
			{ok, ok, ok, ok}, {ok, ok, who, ok}, {ok, ok, ok, who}, {ok, ok, who, who}, {who, ok, ok, ok}, {who, ok, who, ok},
			{ok, full, ok, who}, {ok, full, who, who}, {who, full, ok, ok}, {who, full, who, ok},
		}},
		{"Drops of two chains", 2, []api.Key{flow, far}, []doer{drops(flow), adds(near), looks(flow), drops(far)}, []ends{
			{ok, ok, ok, ok}, {ok, ok, who, ok}, {ok, full, ok, ok}, {ok, full, who, ok},
		}},
	}
}

func TestEachOrderOfSteps(t *testing.T) {
	for _, x := range slices.Concat(dropsAlone(), dropsAndAdds(), dropsAndLooks(), dropsAddsAndLooks()) {
		first := moment{m: mapping(t, x.many, 2, 1, x.keys...)}
		copy(first.doers[:], x.calls)
		got := explore(t, first)
		for _, y := range x.want {
			if got[y] == 0 {
				t.Errorf("%s: no order ends with %v", x.what, y)
			}
			delete(got, y)
		}
		for y := range got {
			t.Errorf("%s: an order ends with %v", x.what, y)
		}
	}
}
