package add

import (
	"slices"
	"testing"

	"turnstile/api"
	"turnstile/chain"
	"turnstile/frame"
	"turnstile/key"
	"turnstile/look"
	"turnstile/mem"
)

// P6.2: each order in which the steps of several calls can follow each other

// tick: time goes on once, as a call of one step.
const tick = -1

// doer: a call (an Add, a Look, a Drop, a tick), where it is, and what was so of its key while it went on.
type doer struct {
	kind          int
	k             api.Key
	begun         bool
	at, cur, slot int
	done          bool
	e             api.Errno
	gone          bool    // it was not mapped
	over          bool    // it was mapped, and over
	there         [3]bool // it was mapped to that slot
	lasts         [3]bool // it was mapped to that slot, and not over
	came          [3]bool // it was not mapped ahead of a step, and to that slot behind
}

func adds(k api.Key) doer  { return doer{kind: api.Add, k: k} }
func looks(k api.Key) doer { return doer{kind: api.Look, k: k} }
func drops(k api.Key) doer { return doer{kind: api.Drop, k: k} }
func ticks() doer          { return doer{kind: tick} }

func (x doer) frame() api.Frame {
	return api.Frame{C: api.Call{Kind: x.kind, K: x.k, Time: 1}, At: x.at, Cur: x.cur, Slot: x.slot, Done: x.done, E: x.e}
}

func (x *doer) goesTo(f api.Frame) {
	x.at, x.cur, x.slot, x.done, x.e = f.At, f.Cur, f.Slot, f.Done, f.E
}

// moment of a small world: up to three slots, two chains, up to four calls.
type moment struct {
	m     api.Mem
	doers [4]doer
}

// id: all that a moment is, as a value that can be compared.
type id struct {
	slots        [3]api.Slot
	heads, locks [2]int
	free         [3]int
	now          int
	doers        [4]doer
}

func (x moment) id() id {
	y := id{now: x.m.Now, doers: x.doers}
	copy(y.slots[:], x.m.Slots)
	copy(y.heads[:], x.m.Heads)
	copy(y.locks[:], x.m.Locks)
	for i, a := range x.m.Free {
		y.free[i] = a + 1
	}
	return y
}

// slotOf answers the slot to which k is mapped, -1 if it isn't; chains are to be right at each moment.
func slotOf(t *testing.T, m api.Mem, k api.Key) int {
	t.Helper()
	l, e := chain.Flows(m)
	if e != api.OK {
		t.Fatalf("chains are not right: %v in %+v", e, m)
	}
	i := slices.IndexFunc(l, func(y api.Flow) bool { return y.K == k })
	if i < 0 {
		return -1
	}
	return l[i].Slot
}

// sees notes how it stands with the key.
func (x *doer) sees(t *testing.T, m api.Mem) {
	a := slotOf(t, m, x.k)
	if a < 0 {
		x.gone = true
		return
	}
	x.there[a] = true
	if m.Slots[a].Until > m.Now {
		x.lasts[a] = true
	} else {
		x.over = true
	}
}

// dropStep: a Drop under the lock, by chapter 2 and 3's calls, its place in the chain being found at once.
func dropStep(t *testing.T, m *api.Mem, f api.Frame, task int) api.Frame {
	b := frame.Bucket(*m, f.C)
	switch f.At {
	case 0:
		if m.Locks[b] != -1 {
			return f
		}
		m.Locks[b] = task
	case 1:
		if n, a, e := chain.Without(*m, f.C.K); e == api.OK {
			*m, f.Slot = n, a
		} else {
			f.E = e
		}
	case 2:
		m.Locks[b] = -1
		f.Done = f.Slot == -1
	case 3:
		n, e := mem.Let(*m, f.Slot)
		if e != api.OK {
			t.Fatalf("a slot that was cut out can't be put: %v, %+v", e, *m)
		}
		*m, f.Slot, f.Done = n, -1, true
	}
	f.At++
	return f
}

// goesOn: call i begins, or does a step.
func (x moment) goesOn(t *testing.T, i int) moment {
	x.m = wholeCopy(x.m)
	d := &x.doers[i]
	f := d.frame()
	switch {
	case !d.begun:
		f.Slot, d.begun = -1, true
	case d.kind == api.Add:
		f = Step(&x.m, f, i)
	case d.kind == api.Look:
		f = look.Step(&x.m, f)
	case d.kind == api.Drop:
		f = dropStep(t, &x.m, f, i)
	case d.kind == tick:
		x.m.Now++
		f.Done = true
	}
	d.goesTo(f)
	return x
}

// after answers the moment behind a step of call i, with what each call that goes on sees of it.
func (x moment) after(t *testing.T, i int) moment {
	y := x.goesOn(t, i)
	for j := range y.doers {
		d := &y.doers[j]
		if !d.begun || x.doers[j].done {
			continue
		}
		d.sees(t, y.m)
		if a := slotOf(t, y.m, d.k); a >= 0 && slotOf(t, x.m, d.k) < 0 && x.doers[j].begun {
			d.came[a] = true
		}
	}
	return y
}

// tells: was it so, what the call was done with?
func (x doer) tells(m api.Mem) bool {
	switch {
	case x.kind == api.Add && x.e == api.OK:
		return x.came[x.slot]
	case x.kind == api.Add && x.e == api.ErrTwice:
		return slices.Contains(x.there[:], true) && x.slot == -1
	case x.kind == api.Add:
		return x.e == api.ErrFull && x.slot == -1
	case x.kind == api.Look && x.e == api.OK:
		return x.lasts[x.slot] && m.Slots[x.slot].Refs > 0 && m.Slots[x.slot].K == x.k
	case x.kind == api.Look:
		return x.e == api.ErrWho && (x.gone || x.over) && x.slot == -1
	}
	return true
}

// hasLock: is the call between its taking the lock and its giving it back?
func (x doer) hasLock() bool {
	switch x.kind {
	case api.Add:
		return x.at >= 2 && !x.done
	case api.Drop:
		return x.at == 1 || x.at == 2
	}
	return false
}

// holds answers which slot the call holds, -1 if none: what it linked, the chain holds.
func (x doer) holds() int {
	if !x.begun || x.kind == api.Add && x.at == 7 {
		return -1
	}
	return x.slot
}

// isRight: memory and frames are as chapters 2 to 4 take them, each lock is had by the call that works under it, and each slot is held as often as somebody holds it.
func (x moment) isRight(t *testing.T) {
	t.Helper()
	locks, refs := []int{-1, -1}, make([]int, len(x.m.Slots))
	for i, d := range x.doers {
		if e := frame.Check(x.m, d.frame()); d.begun && d.kind != tick && !d.done && e != api.OK {
			t.Fatalf("a frame is not right: %v, %+v", e, d)
		}
		if b, _ := key.Bucket(d.k, 2); d.hasLock() {
			if locks[b] != -1 {
				t.Fatalf("two calls have one lock: %+v", x)
			}
			locks[b] = i
		}
		if a := d.holds(); a >= 0 {
			refs[a]++
		}
	}
	l, e := chain.Flows(x.m)
	if e != api.OK || !slices.Equal(x.m.Locks, locks) {
		t.Fatalf("chains, or locks, are not right: %v, locks %v in %+v", e, locks, x)
	}
	for _, y := range l {
		refs[y.Slot]++
	}
	for a, n := range refs {
		if x.m.Slots[a].Refs != n {
			t.Fatalf("slot %d is held by %d: %+v", a, n, x)
		}
	}
}

// comesToAnEnd: calls that go on, each in turn, are all done at some time.
func (x moment) comesToAnEnd(t *testing.T) {
	t.Helper()
	for range 60 {
		busy := false
		for i, d := range x.doers {
			if d.kind != 0 && !d.done {
				x, busy = x.goesOn(t, i), true
			}
		}
		if !busy {
			return
		}
	}
	t.Fatalf("calls don't come to an end: %+v", x)
}

// ends: what each call was done with.
type ends [4]api.Errno

func (x moment) ends() ends {
	var y ends
	for i, d := range x.doers {
		y[i] = d.e
	}
	return y
}

// explore goes through all that can follow a moment, and answers each way in which all calls end.
func explore(t *testing.T, first moment) map[ends]int {
	t.Helper()
	out, seen := map[ends]int{}, map[id]int{}
	work := []moment{first}
	for len(work) > 0 {
		x := work[len(work)-1]
		work = work[:len(work)-1]
		if seen[x.id()]++; seen[x.id()] > 1 {
			continue
		}
		x.isRight(t)
		x.comesToAnEnd(t)
		busy := false
		for i, d := range x.doers {
			if d.done && !d.tells(x.m) {
				t.Fatalf("what never was so: call %d of %+v", i, x)
			}
			if d.kind != 0 && !d.done {
				busy = true
				work = append(work, x.after(t, i))
			}
		}
		if !busy {
			out[x.ends()]++
		}
	}
	return out
}

// scene: memory with these flows in it, calls in it, and all the ways in which those can end.
type scene struct {
	what  string
	many  int
	keys  []api.Key
	calls []doer
	want  []ends
}

const (
	ok    = api.OK
	twice = api.ErrTwice
	full  = api.ErrFull
	who   = api.ErrWho
)

func twoAdds() []scene {
	one := []doer{adds(flow), adds(flow)}
	two := []doer{adds(flow), adds(near)}
	apart := []doer{adds(flow), adds(far)}
	return []scene{
		{"one key", 2, nil, one, []ends{{ok, twice}, {twice, ok}}},
		{"one key, one slot", 1, nil, one, []ends{{ok, full}, {full, ok}}},
		{"one key, no slot", 0, nil, one, []ends{{full, full}}},
		{"one key, beside another one", 3, []api.Key{near}, one, []ends{{ok, twice}, {twice, ok}}},
		{"one key that is there", 3, []api.Key{flow}, one, []ends{{twice, twice}}},
		{"one key that is there, one slot", 2, []api.Key{flow}, one, []ends{{twice, twice}, {twice, full}, {full, twice}}},
		{"two keys of one chain", 2, nil, two, []ends{{ok, ok}}},
		{"two keys of one chain, one slot", 1, nil, two, []ends{{ok, full}, {full, ok}}},
		{"two keys of one chain, one being there", 3, []api.Key{flow}, two, []ends{{twice, ok}}},
		{"two keys of one chain, one being there, one slot", 2, []api.Key{flow}, two, []ends{{twice, ok}, {full, ok}, {twice, full}}},
		{"three of one key", 3, nil, append(one, adds(flow)), []ends{{ok, twice, twice}, {twice, ok, twice}, {twice, twice, ok}}},
		{"three, two being of one key", 3, nil, append(one, adds(near)), []ends{{ok, twice, ok}, {twice, ok, ok}}},
		{"two chains", 2, nil, apart, []ends{{ok, ok}}},
		{"two chains, one slot", 1, nil, apart, []ends{{ok, full}, {full, ok}}},
		{"two chains, both being there", 3, []api.Key{flow, far}, apart, []ends{{twice, twice}, {twice, full}, {full, twice}}},
	}
}

func addsAndALook() []scene {
	l := []doer{adds(flow), looks(flow)}
	return []scene{
		{"a Look", 1, nil, l, []ends{{ok, ok}, {ok, who}}},
		{"a Look, two slots", 2, nil, l, []ends{{ok, ok}, {ok, who}}},
		{"a Look, beside another one", 2, []api.Key{near}, l, []ends{{ok, ok}, {ok, who}}},
		{"a Look of what is there", 2, []api.Key{flow}, l, []ends{{twice, ok}}},
		{"a Look of what is there, no slot", 1, []api.Key{flow}, l, []ends{{full, ok}}},
		{"a Look, and time", 1, nil, append(l, ticks()), []ends{{ok, ok}, {ok, who}}},
		{"a Look of what is there, and time", 2, []api.Key{flow}, append(l, ticks()), []ends{{twice, ok}, {twice, who}}},
		{"a Look, and another Add", 2, nil, append(l, adds(flow)), []ends{{ok, ok, twice}, {ok, who, twice}, {twice, ok, ok}, {twice, who, ok}}},
		{"two Looks", 1, nil, append(l, looks(flow)), []ends{{ok, ok, ok}, {ok, ok, who}, {ok, who, ok}, {ok, who, who}}},
	}
}

func addsAndDrops() []scene {
	return []scene{
		{"a Drop", 1, nil, []doer{adds(flow), drops(flow)}, []ends{{ok, ok}, {ok, who}}},
		{"a Drop of what is there", 2, []api.Key{flow}, []doer{adds(flow), drops(flow)}, []ends{{ok, ok}, {twice, ok}}},
		{"a Drop of what is there, no slot", 1, []api.Key{flow}, []doer{adds(flow), drops(flow)}, []ends{{ok, ok}, {full, ok}}},
		{"a Drop and a Look", 1, nil, []doer{adds(flow), drops(flow), looks(flow)}, []ends{{ok, ok, ok}, {ok, ok, who}, {ok, who, ok}, {ok, who, who}}},
		{"a Drop and another Add", 2, []api.Key{flow}, []doer{adds(flow), drops(flow), adds(flow)}, []ends{{ok, ok, twice}, {twice, ok, ok}, {twice, ok, twice}, {ok, ok, full}, {full, ok, ok}, {twice, ok, full}, {full, ok, twice}}},
		{"a Drop of another one, and a Look", 2, []api.Key{flow, near}, []doer{adds(far), drops(near), looks(flow)}, []ends{{ok, ok, ok}, {full, ok, ok}}},
		{"a Drop of the same chain, and a Look", 2, []api.Key{flow, near}, []doer{adds(side), drops(near), looks(flow)}, []ends{{ok, ok, ok}, {full, ok, ok}}},
		{"a Drop of what is looked for, the slot being taken for another", 1, []api.Key{flow}, []doer{adds(far), drops(flow), looks(flow)}, []ends{{ok, ok, who}, {full, ok, ok}, {full, ok, who}}},
		{"a Drop of what is looked for, the slot being taken for it again", 1, []api.Key{flow}, []doer{adds(flow), drops(flow), looks(flow)}, []ends{{ok, ok, ok}, {ok, ok, who}, {full, ok, ok}, {full, ok, who}}},
		{"a Drop, a Look, and time", 1, nil, []doer{adds(flow), drops(flow), looks(flow), ticks()}, []ends{{ok, ok, ok}, {ok, ok, who}, {ok, who, ok}, {ok, who, who}}},
		{"a Drop, and Adds of two chains", 2, []api.Key{flow}, []doer{adds(flow), drops(flow), adds(far), looks(flow)}, []ends{
			{ok, ok, ok, ok}, {ok, ok, ok, who}, {ok, ok, full, ok}, {ok, ok, full, who},
			{twice, ok, ok, ok}, {twice, ok, ok, who}, {twice, ok, full, ok}, {twice, ok, full, who},
			{full, ok, ok, ok}, {full, ok, ok, who},
		}},
	}
}

func TestEachOrderOfSteps(t *testing.T) {
	for _, x := range slices.Concat(twoAdds(), addsAndALook(), addsAndDrops()) {
		first := moment{m: mapping(t, x.many, 2, 1, x.keys...)}
		copy(first.doers[:], x.calls)
		got := explore(t, first)
		for _, y := range x.want {
			if got[y] == 0 {
				t.Errorf("%s: no order ends with %v", x.what, y)
			}
			delete(got, y)
		}
		for y := range got {
			t.Errorf("%s: an order ends with %v", x.what, y)
		}
	}
}
