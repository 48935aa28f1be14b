package mem

import (
	"math"
	"reflect"
	"slices"
	"testing"

	"turnstile/api"
)

// sample: slots 0 and 1 are held, 2 to 4 are free; chain 0 has both of them, chain 1 none.
func sample() api.Mem {
	return api.Mem{
		Slots: []api.Slot{
			{Refs: 2, K: api.Key{A: 1, B: 2}, Until: 5, In: true, Next: 2},
			{Refs: 1, K: api.Key{A: 3, B: 4}, Until: 6, In: true, Next: -1},
			{K: api.Key{A: 5, B: 6}, Until: 7, In: true, Next: -2},
			{Next: 1},
			{},
		},
		Heads: []int{1, -2},
		Free:  []int{4, 2, 3},
		Locks: []int{0, -1},
		Now:   3,
	}
}

// of answers a sample that was changed so.
func of(change func(m *api.Mem)) api.Mem {
	m := sample()
	change(&m)
	return m
}

// full: memory of which no slot is free.
func full() api.Mem {
	return of(func(m *api.Mem) { m.Slots, m.Free = m.Slots[:2], nil })
}

// farOut: numbers that are no index of any list.
func farOut() []int { return []int{math.MinInt, math.MinInt + 1, -1, math.MaxInt - 1, math.MaxInt} }

func isZero(m api.Mem) bool { return reflect.DeepEqual(m, api.Mem{}) }

// P2.1: New

func TestNew(t *testing.T) {
	for many := range api.MaxSlots + 1 {
		for buckets := 1; buckets <= api.MaxBuckets; buckets++ {
			m, e := New(many, buckets)
			want := api.Mem{Slots: make([]api.Slot, many)}
			for a := many - 1; a >= 0; a-- {
				want.Free = append(want.Free, a)
			}
			want.Heads = []int{-1, -2, -3, -4}[:buckets]
			want.Locks = []int{-1, -1, -1, -1}[:buckets]
			if e != api.OK || !Same(m, want) {
				t.Errorf("New(%d, %d): %v, %v, want %v, OK", many, buckets, m, e, want)
			}
			if e := Check(m); e != api.OK {
				t.Errorf("Check of New(%d, %d): %v, want OK", many, buckets, e)
			}
		}
	}
}

func TestNewTakesTheFirstSlotFirst(t *testing.T) {
	m, _ := New(api.MaxSlots, 1)
	for want := range api.MaxSlots {
		var a int
		var e api.Errno
		if m, a, e = Taken(m, api.Key{}, 0); a != want || e != api.OK {
			t.Fatalf("the slot that is taken next: %d, %v, want %d, OK", a, e, want)
		}
	}
}

func TestNewRefuses(t *testing.T) {
	refused := func(many, buckets int) {
		if m, e := New(many, buckets); !isZero(m) || e != api.ErrRange {
			t.Errorf("New(%d, %d): %v, %v, want nothing, ErrRange", many, buckets, m, e)
		}
	}
	for _, wrong := range append(farOut(), -2) {
		refused(wrong, 1)
		refused(1, wrong)
		refused(wrong, wrong)
	}
	refused(api.MaxSlots+1, 1)
	refused(api.MaxSlots+1, api.MaxBuckets)
	refused(0, 0)
	refused(1, 0)
	refused(1, api.MaxBuckets+1)
}

// P2.1: Check

func TestCheckTakes(t *testing.T) {
	for what, m := range map[string]api.Mem{
		"a sample":          sample(),
		"no slot is free":   full(),
		"no slots":          {Heads: []int{-1}, Locks: []int{-1}},
		"no slots, empty":   {Slots: []api.Slot{}, Heads: []int{-1}, Free: []int{}, Locks: []int{-1}},
		"most slots":        of(func(m *api.Mem) { addHeld(m, api.MaxSlots) }),
		"one chain":         {Slots: []api.Slot{{}}, Heads: []int{-1}, Free: []int{0}, Locks: []int{-1}},
		"most chains":       of(func(m *api.Mem) { m.Heads, m.Locks = []int{1, -2, -3, -4}, []int{-1, -1, -1, -1} }),
		"Now 0":             of(func(m *api.Mem) { m.Now = 0 }),
		"most Now":          of(func(m *api.Mem) { m.Now = api.MaxTime }),
		"most Refs":         of(func(m *api.Mem) { m.Slots[0].Refs = api.MaxRefs }),
		"one Ref less":      of(func(m *api.Mem) { m.Slots[0].Refs = api.MaxRefs - 1 }),
		"Until 0":           of(func(m *api.Mem) { m.Slots[0].Until = 0 }),
		"most Until":        of(func(m *api.Mem) { m.Slots[0].Until = 2 * api.MaxTime }),
		"most Until, free":  of(func(m *api.Mem) { m.Slots[3].Until = 2 * api.MaxTime }),
		"greatest key":      of(func(m *api.Mem) { m.Slots[0].K = api.Key{A: api.MaxEnd, B: api.MaxEnd} }),
		"Next: last slot":   of(func(m *api.Mem) { m.Slots[0].Next = 5 }),
		"Next: itself":      of(func(m *api.Mem) { m.Slots[0].Next = 1 }),
		"Next: last end":    of(func(m *api.Mem) { m.Slots[0].Next = -2 }),
		"Next: nothing":     of(func(m *api.Mem) { m.Slots[0].Next = 0 }),
		"begin: last slot":  of(func(m *api.Mem) { m.Heads[0] = 5 }),
		"begin: first slot": of(func(m *api.Mem) { m.Heads[1] = 1 }),
		"begin: other end":  of(func(m *api.Mem) { m.Heads[0] = -2 }),
		"no lock":           of(func(m *api.Mem) { m.Locks[0] = -1 }),
		"last task's lock":  of(func(m *api.Mem) { m.Locks[0] = api.MaxTasks - 1 }),
		"one has all locks": of(func(m *api.Mem) { m.Locks[0], m.Locks[1] = 2, 2 }),
		"one key twice":     of(func(m *api.Mem) { m.Slots[0].K = m.Slots[1].K }),
		"other order":       of(func(m *api.Mem) { m.Free = []int{2, 3, 4} }),
	} {
		if e := Check(m); e != api.OK {
			t.Errorf("%s: Check(%v): %v, want OK", what, m, e)
		}
	}
}

// addHeld adds slots that are held, up to so many.
func addHeld(m *api.Mem, many int) {
	for len(m.Slots) < many {
		m.Slots = append(m.Slots, api.Slot{Refs: 1})
	}
}

// fault: what makes a sample wrong, each one of them in one place.
type fault struct {
	what string
	e    api.Errno
	make func(m *api.Mem)
}

// faults in the order in which Check tells of them.
func faults() []fault {
	l := []fault{
		{"too many slots", api.ErrMany, func(m *api.Mem) { addHeld(m, api.MaxSlots+1) }},
		{"far too many slots", api.ErrMany, func(m *api.Mem) { addHeld(m, 1000) }},
		{"no chain", api.ErrMany, func(m *api.Mem) { m.Heads = nil }},
		{"too many chains", api.ErrMany, func(m *api.Mem) { m.Heads = append(m.Heads, -3, -4, -5) }},
		{"too many chains, all with locks", api.ErrMany, func(m *api.Mem) {
			m.Heads, m.Locks = append(m.Heads, -3, -4, -5), append(m.Locks, -1, -1, -1)
		}},
		{"no lock", api.ErrForm, func(m *api.Mem) { m.Locks = nil }},
		{"a lock too few", api.ErrForm, func(m *api.Mem) { m.Locks = m.Locks[:1] }},
		{"a lock too many", api.ErrForm, func(m *api.Mem) { m.Locks = append(m.Locks, -1) }},
	}
	for _, n := range []int{-1, api.MaxTime + 1, math.MinInt, math.MaxInt} {
		l = append(l, fault{"Now", api.ErrRange, func(m *api.Mem) { m.Now = n }})
	}
	for a := range 5 {
		l = append(l, slotFaults(a)...)
	}
	for b := range 2 {
		l = append(l, chainFaults(b)...)
	}
	return append(l, freeFaults()...)
}

func slotFaults(a int) []fault {
	var l []fault
	add := func(what string, e api.Errno, n int, field func(s *api.Slot) *int) {
		l = append(l, fault{what, e, func(m *api.Mem) { *field(&m.Slots[a]) = n }})
	}
	for _, n := range []int{-1, api.MaxRefs + 1, math.MinInt, math.MaxInt} {
		add("Refs", api.ErrRange, n, func(s *api.Slot) *int { return &s.Refs })
	}
	for _, n := range []int{-1, 2*api.MaxTime + 1, math.MinInt, math.MaxInt} {
		add("Until", api.ErrRange, n, func(s *api.Slot) *int { return &s.Until })
	}
	for _, n := range []int{-1, api.MaxEnd + 1, math.MinInt, math.MaxInt} {
		add("A", api.ErrRange, n, func(s *api.Slot) *int { return &s.K.A })
		add("B", api.ErrRange, n, func(s *api.Slot) *int { return &s.K.B })
	}
	for _, n := range []int{-3, 6, math.MinInt, math.MaxInt} {
		add("Next", api.ErrWho, n, func(s *api.Slot) *int { return &s.Next })
	}
	return l
}

func chainFaults(b int) []fault {
	var l []fault
	for _, n := range []int{0, -3, 6, math.MinInt, math.MaxInt} {
		l = append(l, fault{"begin", api.ErrWho, func(m *api.Mem) { m.Heads[b] = n }})
	}
	for _, n := range []int{-2, api.MaxTasks, math.MinInt, math.MaxInt} {
		l = append(l, fault{"lock", api.ErrRange, func(m *api.Mem) { m.Locks[b] = n }})
	}
	return l
}

func freeFaults() []fault {
	var l []fault
	add := func(what string, e api.Errno, i, n int) {
		l = append(l, fault{what, e, func(m *api.Mem) { m.Free[i] = n }})
	}
	for _, n := range append(farOut(), 5) {
		add("first of Free is no slot", api.ErrWho, 0, n)
	}
	add("first of Free has Refs", api.ErrWho, 0, 0)
	add("second of Free as the first", api.ErrTwice, 1, 4)
	add("last of Free is no slot", api.ErrWho, 2, 5)
	add("last of Free has Refs", api.ErrWho, 2, 0)
	return append(l,
		fault{"one more of Free, as the first", api.ErrTwice, func(m *api.Mem) { m.Free = append(m.Free, 4) }},
		fault{"a slot without Refs isn't in Free", api.ErrForm, func(m *api.Mem) { m.Slots[1].Refs = 0 }},
	)
}

func TestCheckRefuses(t *testing.T) {
	for _, f := range faults() {
		m := of(f.make)
		if e := Check(m); e != f.e {
			t.Errorf("%s: Check(%v): %v, want %v", f.what, m, e, f.e)
		}
	}
}

func TestCheckTellsTheFirstFault(t *testing.T) {
	l := faults()
	for j, later := range l {
		for _, first := range l[:j] {
			m := sample()
			later.make(&m)
			first.make(&m)
			if e := Check(m); e != first.e {
				t.Errorf("%s, then %s: Check(%v): %v, want %v", first.what, later.what, m, e, first.e)
			}
		}
	}
}

func TestCheckRefusesFreeThatLacksOne(t *testing.T) {
	for what, l := range map[string][]int{"nil": nil, "empty": {}, "first": {2, 3}, "middle": {4, 3}, "last": {4, 2}} {
		m := of(func(m *api.Mem) { m.Free = l })
		if e := Check(m); e != api.ErrForm {
			t.Errorf("%s: Check(%v): %v, want ErrForm", what, m, e)
		}
	}
}

func TestCheckOfNothing(t *testing.T) {
	if e := Check(api.Mem{}); e != api.ErrMany {
		t.Errorf("Check of the zero Mem: %v, want ErrMany", e)
	}
}

func TestCheckEndsWithFreeThatGoesOn(t *testing.T) {
	m := of(func(m *api.Mem) { m.Free = slices.Repeat([]int{4, 2, 3}, 100000) })
	if e := Check(m); e != api.ErrTwice {
		t.Errorf("Check of a Free that goes round: %v, want ErrTwice", e)
	}
}

// P2.1: Same

func TestSame(t *testing.T) {
	for what, change := range map[string]func(m *api.Mem){
		"Refs":          func(m *api.Mem) { m.Slots[1].Refs++ },
		"A":             func(m *api.Mem) { m.Slots[1].K.A++ },
		"B":             func(m *api.Mem) { m.Slots[1].K.B++ },
		"Until":         func(m *api.Mem) { m.Slots[1].Until++ },
		"In":            func(m *api.Mem) { m.Slots[1].In = false },
		"Next":          func(m *api.Mem) { m.Slots[1].Next++ },
		"last slot":     func(m *api.Mem) { m.Slots[4].Refs++ },
		"fewer slots":   func(m *api.Mem) { m.Slots = m.Slots[:4] },
		"more slots":    func(m *api.Mem) { m.Slots = append(m.Slots, api.Slot{}) },
		"no slots":      func(m *api.Mem) { m.Slots = nil },
		"Heads":         func(m *api.Mem) { m.Heads[1]++ },
		"fewer Heads":   func(m *api.Mem) { m.Heads = m.Heads[:1] },
		"more Heads":    func(m *api.Mem) { m.Heads = append(m.Heads, 0) },
		"Free":          func(m *api.Mem) { m.Free[2]++ },
		"order of Free": func(m *api.Mem) { slices.Reverse(m.Free) },
		"fewer Free":    func(m *api.Mem) { m.Free = m.Free[:2] },
		"more Free":     func(m *api.Mem) { m.Free = append(m.Free, 0) },
		"Locks":         func(m *api.Mem) { m.Locks[1]++ },
		"fewer Locks":   func(m *api.Mem) { m.Locks = m.Locks[:1] },
		"more Locks":    func(m *api.Mem) { m.Locks = append(m.Locks, 0) },
		"Now":           func(m *api.Mem) { m.Now++ },
	} {
		m := of(change)
		if Same(sample(), m) || Same(m, sample()) {
			t.Errorf("%s: Same(%v, %v): true, want false", what, sample(), m)
		}
		if !Same(m, of(change)) {
			t.Errorf("%s: Same(%v, itself): false, want true", what, m)
		}
	}
	if !Same(sample(), sample()) {
		t.Error("Same of a sample and itself: false, want true")
	}
}

func TestSameWhateverTheyAre(t *testing.T) {
	for _, f := range faults() {
		a, b := of(f.make), of(f.make)
		if !Same(a, b) || Same(a, sample()) || Same(sample(), a) {
			t.Errorf("%s: Same tells of it otherwise than that it is like itself, and unlike a sample", f.what)
		}
	}
}

func TestSameOfEmptyLists(t *testing.T) {
	none := api.Mem{}
	empty := api.Mem{Slots: []api.Slot{}, Heads: []int{}, Free: []int{}, Locks: []int{}}
	if !Same(none, empty) || !Same(empty, none) || !Same(none, none) {
		t.Error("Same holds nil lists and empty ones to be unlike")
	}
}

func TestSameSeesNoSpareRoom(t *testing.T) {
	a, _ := spacious(sample(), 7)
	b, _ := spacious(sample(), 8)
	if !Same(a, b) {
		t.Error("Same holds memory with other spare room to be unlike")
	}
}

// P2.2: Taken

func TestTaken(t *testing.T) {
	for _, k := range []api.Key{{}, {A: 9, B: 8}, {A: api.MaxEnd, B: api.MaxEnd}} {
		for _, until := range []int{0, 1, api.MaxTime, 2*api.MaxTime - 1, 2 * api.MaxTime} {
			got, a, e := Taken(sample(), k, until)
			want := of(func(m *api.Mem) {
				m.Free = []int{4, 2}
				m.Slots[3] = api.Slot{Refs: 1, K: k, Until: until, Next: 1}
			})
			if e != api.OK || a != 3 || !Same(got, want) {
				t.Errorf("Taken(sample, %v, %d): %v, %d, %v, want %v, 3, OK", k, until, got, a, e, want)
			}
		}
	}
}

func TestTakenLeavesWhatStandsBehind(t *testing.T) {
	for _, next := range []int{-2, -1, 0, 1, 3, 5} {
		m := of(func(m *api.Mem) {
			m.Free = []int{3, 4, 2}
			m.Slots[2].Next = next
		})
		got, a, e := Taken(m, api.Key{A: 1}, 9)
		if e != api.OK || a != 2 {
			t.Fatalf("Taken: %d, %v, want 2, OK", a, e)
		}
		if want := (api.Slot{Refs: 1, K: api.Key{A: 1}, Until: 9, Next: next}); got.Slots[2] != want {
			t.Errorf("the slot that is taken: %v, want %v", got.Slots[2], want)
		}
	}
}

func TestTakenRefuses(t *testing.T) {
	none, _ := New(0, 1)
	for _, c := range []struct {
		what  string
		m     api.Mem
		k     api.Key
		until int
		e     api.Errno
	}{
		{"no slot is free", full(), api.Key{}, 0, api.ErrFull},
		{"no slots", none, api.Key{}, 0, api.ErrFull},
		{"A", sample(), api.Key{A: api.MaxEnd + 1}, 0, api.ErrRange},
		{"B", sample(), api.Key{B: -1}, 0, api.ErrRange},
		{"until below 0", sample(), api.Key{}, -1, api.ErrRange},
		{"until too late", sample(), api.Key{}, 2*api.MaxTime + 1, api.ErrRange},
		{"least until", sample(), api.Key{}, math.MinInt, api.ErrRange},
		{"greatest until", sample(), api.Key{}, math.MaxInt, api.ErrRange},
		{"a key that may not be, and no slot is free", full(), api.Key{A: -1}, 0, api.ErrRange},
		{"until may not be, and no slot is free", full(), api.Key{}, -1, api.ErrRange},
	} {
		if m, a, e := Taken(c.m, c.k, c.until); !isZero(m) || a != 0 || e != c.e {
			t.Errorf("%s: Taken: %v, %d, %v, want nothing, 0, %v", c.what, m, a, e, c.e)
		}
	}
}

// P2.2: Held, Let

func TestHeld(t *testing.T) {
	for _, refs := range []int{1, 2, api.MaxRefs - 2, api.MaxRefs - 1} {
		m := of(func(m *api.Mem) { m.Slots[1].Refs = refs })
		want := of(func(m *api.Mem) { m.Slots[1].Refs = refs + 1 })
		if got, e := Held(m, 1); e != api.OK || !Same(got, want) {
			t.Errorf("Held of a slot with %d Refs: %v, %v, want %v, OK", refs, got, e, want)
		}
	}
}

func TestLet(t *testing.T) {
	for _, refs := range []int{2, 3, api.MaxRefs - 1, api.MaxRefs} {
		m := of(func(m *api.Mem) { m.Slots[1].Refs = refs })
		want := of(func(m *api.Mem) { m.Slots[1].Refs = refs - 1 })
		if got, e := Let(m, 1); e != api.OK || !Same(got, want) {
			t.Errorf("Let of a slot with %d Refs: %v, %v, want %v, OK", refs, got, e, want)
		}
	}
}

func TestLetOfTheLastRefFreesTheSlot(t *testing.T) {
	want := of(func(m *api.Mem) {
		m.Slots[1].Refs = 0
		m.Free = []int{4, 2, 3, 1}
	})
	if got, e := Let(sample(), 1); e != api.OK || !Same(got, want) {
		t.Errorf("Let of a slot with one Ref: %v, %v, want %v, OK", got, e, want)
	}
	want = api.Mem{Slots: []api.Slot{{}}, Heads: []int{-1}, Free: []int{0}, Locks: []int{-1}}
	alone := api.Mem{Slots: []api.Slot{{Refs: 1}}, Heads: []int{-1}, Locks: []int{-1}}
	if got, e := Let(alone, 0); e != api.OK || !Same(got, want) {
		t.Errorf("Let of the only slot: %v, %v, want %v, OK", got, e, want)
	}
}

func TestHeldAndLetRefuse(t *testing.T) {
	most := of(func(m *api.Mem) { m.Slots[0].Refs = api.MaxRefs })
	none, _ := New(0, 1)
	refused := func(what string, m api.Mem, e api.Errno) func(wanted api.Errno) {
		return func(wanted api.Errno) {
			t.Helper()
			if !isZero(m) || e != wanted {
				t.Errorf("%s: %v, %v, want nothing, %v", what, m, e, wanted)
			}
		}
	}
	held := func(what string, m api.Mem, a int) func(api.Errno) {
		got, e := Held(m, a)
		return refused("Held, "+what, got, e)
	}
	let := func(what string, m api.Mem, a int) func(api.Errno) {
		got, e := Let(m, a)
		return refused("Let, "+what, got, e)
	}
	for _, a := range append(farOut(), 5, 6) {
		held("no such slot", sample(), a)(api.ErrWho)
		let("no such slot", sample(), a)(api.ErrWho)
	}
	held("no slots", none, 0)(api.ErrWho)
	let("no slots", none, 0)(api.ErrWho)
	for a := 2; a < 5; a++ {
		held("a free slot", sample(), a)(api.ErrLate)
		let("a free slot", sample(), a)(api.ErrLate)
	}
	held("most Refs", most, 0)(api.ErrLate)
}

func TestChecksErrorIsToldFirst(t *testing.T) {
	for _, f := range faults() {
		for _, a := range []int{-1, 0, 3} {
			m, e := Held(of(f.make), a)
			if !isZero(m) || e != f.e {
				t.Errorf("%s: Held(.., %d): %v, %v, want nothing, %v", f.what, a, m, e, f.e)
			}
			m, e = Let(of(f.make), a)
			if !isZero(m) || e != f.e {
				t.Errorf("%s: Let(.., %d): %v, %v, want nothing, %v", f.what, a, m, e, f.e)
			}
		}
		for _, k := range []api.Key{{}, {A: -1}} {
			m, a, e := Taken(of(f.make), k, 0)
			if !isZero(m) || a != 0 || e != f.e {
				t.Errorf("%s: Taken(.., %v, 0): %v, %d, %v, want nothing, 0, %v", f.what, k, m, a, e, f.e)
			}
		}
	}
}

// P2.3

// stack: a model of memory's slots: how often each is held, and which are free, the next one last.
type stack struct {
	refs []int
	free []int
}

func (s stack) clone() stack { return stack{slices.Clone(s.refs), slices.Clone(s.free)} }

// eachWay goes through all ways to take, hold and put, so many calls long.
func eachWay(t *testing.T, m api.Mem, s stack, many int) {
	if e := Check(m); e != api.OK || !slices.Equal(m.Free, s.free) {
		t.Fatalf("memory %v: %v, want OK, and %v free", m, e, s.free)
	}
	for a, refs := range s.refs {
		if m.Slots[a].Refs != refs {
			t.Fatalf("memory %v: slot %d, want %d Refs", m, a, refs)
		}
	}
	if many == 0 {
		return
	}
	takeNext(t, m, s.clone(), many)
	for a := range s.refs {
		holdNext(t, m, s.clone(), a, many)
		putNext(t, m, s.clone(), a, many)
	}
}

func takeNext(t *testing.T, m api.Mem, s stack, many int) {
	got, a, e := Taken(m, api.Key{A: many, B: 1}, many)
	if len(s.free) == 0 {
		if e != api.ErrFull {
			t.Fatalf("Taken(%v): %v, want ErrFull", m, e)
		}
		return
	}
	want := s.free[len(s.free)-1]
	if e != api.OK || a != want || m.Slots[a].Refs != 0 {
		t.Fatalf("Taken(%v): %d, %v, want %d, OK", m, a, e, want)
	}
	s.refs[a], s.free = 1, s.free[:len(s.free)-1]
	eachWay(t, got, s, many-1)
}

func holdNext(t *testing.T, m api.Mem, s stack, a, many int) {
	got, e := Held(m, a)
	if s.refs[a] == 0 {
		if e != api.ErrLate {
			t.Fatalf("Held(%v, %d): %v, want ErrLate", m, a, e)
		}
		return
	}
	s.refs[a]++
	eachWay(t, got, s, many-1)
}

func putNext(t *testing.T, m api.Mem, s stack, a, many int) {
	got, e := Let(m, a)
	if s.refs[a] == 0 {
		if e != api.ErrLate {
			t.Fatalf("Let(%v, %d): %v, want ErrLate", m, a, e)
		}
		return
	}
	if s.refs[a]--; s.refs[a] == 0 {
		s.free = append(s.free, a)
		if _, next, _ := Taken(got, api.Key{}, 0); next != a {
			t.Fatalf("slot %d was put last, but %d is taken next", a, next)
		}
	}
	eachWay(t, got, s, many-1)
}

func TestEachWayToTakeHoldAndPut(t *testing.T) {
	m, _ := New(3, 2)
	eachWay(t, m, stack{refs: make([]int, 3), free: []int{2, 1, 0}}, 7)
}

func TestHeldUpToMostRefsAndLetAgain(t *testing.T) {
	m, _ := New(1, 1)
	m, a, e := Taken(m, api.Key{}, 0)
	for refs := 1; refs < api.MaxRefs; refs++ {
		if m, e = Held(m, a); e != api.OK {
			t.Fatalf("Held with %d Refs: %v, want OK", refs, e)
		}
	}
	if _, e := Held(m, a); e != api.ErrLate {
		t.Errorf("Held with most Refs: %v, want ErrLate", e)
	}
	for refs := api.MaxRefs; refs > 0; refs-- {
		if _, _, e := Taken(m, api.Key{}, 0); e != api.ErrFull {
			t.Fatalf("Taken while its only slot has %d Refs: %v, want ErrFull", refs, e)
		}
		if m, e = Let(m, a); e != api.OK {
			t.Fatalf("Let with %d Refs: %v, want OK", refs, e)
		}
	}
	if _, e := Let(m, a); e != api.ErrLate {
		t.Errorf("Let with no Refs: %v, want ErrLate", e)
	}
}

// DOC.md, P2

// spacious answers m with lists that have spare room behind them, with mark in all of it, and the whole of these lists.
func spacious(m api.Mem, mark int) (api.Mem, api.Mem) {
	const spare = 5
	whole := api.Mem{Now: m.Now}
	whole.Slots = append(whole.Slots, m.Slots...)
	for range spare {
		whole.Slots = append(whole.Slots, api.Slot{Refs: mark, Until: mark, Next: mark})
	}
	marks := slices.Repeat([]int{mark}, spare)
	whole.Heads = slices.Concat(m.Heads, marks)
	whole.Free = slices.Concat(m.Free, marks)
	whole.Locks = slices.Concat(m.Locks, marks)
	m.Slots = whole.Slots[:len(m.Slots)]
	m.Heads = whole.Heads[:len(m.Heads)]
	m.Free = whole.Free[:len(m.Free)]
	m.Locks = whole.Locks[:len(m.Locks)]
	return m, whole
}

func wholeCopy(m api.Mem) api.Mem {
	return api.Mem{Slots: slices.Clone(m.Slots), Heads: slices.Clone(m.Heads), Free: slices.Clone(m.Free), Locks: slices.Clone(m.Locks), Now: m.Now}
}

// scribble writes over all of m's lists, the spare room behind them too.
func scribble(m api.Mem, mark int) {
	slots := m.Slots[:cap(m.Slots)]
	for a := range slots {
		slots[a] = api.Slot{Refs: mark, Until: mark, Next: mark}
	}
	for _, l := range [][]int{m.Heads, m.Free, m.Locks} {
		fill(l, mark)
	}
}

func fill(l []int, mark int) {
	l = l[:cap(l)]
	for i := range l {
		l[i] = mark
	}
}

// calls: each call on memory that this package has, and what it answers of memory.
func calls() map[string]func(m api.Mem) api.Mem {
	return map[string]func(m api.Mem) api.Mem{
		"Check": func(m api.Mem) api.Mem { Check(m); return api.Mem{} },
		"Same":  func(m api.Mem) api.Mem { Same(m, m); Same(m, sample()); return api.Mem{} },
		"Taken": func(m api.Mem) api.Mem { n, _, _ := Taken(m, api.Key{A: 7}, 9); return n },
		"Held":  func(m api.Mem) api.Mem { n, _ := Held(m, 0); return n },
		"Let":   func(m api.Mem) api.Mem { n, _ := Let(m, 0); return n },
		"Let, of the last Ref": func(m api.Mem) api.Mem {
			n, _ := Let(m, 1)
			return n
		},
	}
}

func TestWhatIsHandedInIsOnlyRead(t *testing.T) {
	noneFree := full()
	empty := of(func(m *api.Mem) { m.Slots, m.Free, m.Heads = nil, nil, []int{-1, -2} })
	for what, call := range calls() {
		for _, start := range []api.Mem{sample(), noneFree, empty, {}} {
			m, whole := spacious(start, 77)
			before := wholeCopy(whole)
			got := call(m)
			if !Same(whole, before) {
				t.Errorf("%s changes what is handed in: %v, was %v", what, whole, before)
			}
			scribble(got, 88)
			if !Same(whole, before) {
				t.Errorf("%s answers memory that it was handed: %v, was %v", what, whole, before)
			}
			again := call(m)
			kept := wholeCopy(again)
			scribble(whole, 99)
			if !Same(again, kept) {
				t.Errorf("%s answers memory that is changed with what was handed in: %v, was %v", what, again, kept)
			}
		}
	}
}

func TestListsOfOneAnswerShareNothing(t *testing.T) {
	answers := calls()
	answers["New"] = func(api.Mem) api.Mem { n, _ := New(3, 3); return n }
	for what, call := range answers {
		m := call(sample())
		for i, l := range [][]int{m.Heads, m.Free, m.Locks} {
			fill(l, 100+i)
		}
		for i, l := range [][]int{m.Heads, m.Free, m.Locks} {
			for _, n := range l[:cap(l)] {
				if n != 100+i {
					t.Errorf("%s answers lists that share memory", what)
				}
			}
		}
	}
}

func TestAnswersHangOnArgumentsAlone(t *testing.T) {
	for what, call := range calls() {
		first := call(sample())
		kept := wholeCopy(first)
		second := call(sample())
		if !Same(first, second) {
			t.Errorf("%s answers %v, then %v", what, first, second)
		}
		scribble(second, 88)
		if !Same(first, kept) {
			t.Errorf("%s answers memory that it answered already", what)
		}
	}
	first, _ := New(3, 3)
	second, _ := New(3, 3)
	scribble(first, 88)
	third, _ := New(3, 3)
	if !Same(second, third) {
		t.Errorf("New answers %v, then %v", second, third)
	}
}
