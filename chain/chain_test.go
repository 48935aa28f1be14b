package chain

import (
	"math"
	"reflect"
	"slices"
	"testing"

	"turnstile/api"
	"turnstile/key"
	"turnstile/mem"
)

// Of two chains, keys with two even ends are in chain 0, all others in chain 1.

// sample: chain 0 has slot 1, chain 1 the slots 0, 3, 5; slot 4 is taken and not linked yet; slot 6 has the key of slot 3, and was cut out; 2 and 7 are free.
func sample() api.Mem {
	return api.Mem{
		Slots: []api.Slot{
			{Refs: 2, K: api.Key{A: 1, B: 2}, Until: 5, In: true, Next: 4},
			{Refs: 1, K: api.Key{A: 2, B: 0}, Until: 6, In: true, Next: -1},
			{K: api.Key{A: 0, B: 1}, Until: 2, In: true, Next: -2},
			{Refs: 1, K: api.Key{A: 0, B: 1}, Until: 7, In: true, Next: 6},
			{Refs: 1, K: api.Key{A: 2, B: 2}, Until: 9, Next: 3},
			{Refs: 3, K: api.Key{A: 1, B: 1}, Until: 8, In: true, Next: -2},
			{Refs: 1, K: api.Key{A: 0, B: 1}, Until: 3, In: true, Next: 1},
			{},
		},
		Heads: []int{2, 1},
		Free:  []int{7, 2},
		Locks: []int{-1, 3},
		Now:   4,
	}
}

// of answers a sample that was changed so.
func of(change func(m *api.Mem)) api.Mem {
	m := sample()
	change(&m)
	return m
}

// packed: all slots that can be, in one chain of so many, the last slot first.
func packed(t *testing.T, buckets int) api.Mem {
	t.Helper()
	m, _ := mem.New(api.MaxSlots, buckets)
	for i := range api.MaxSlots {
		x, a, e := mem.Taken(m, api.Key{A: 4 * (i % 4), B: 4 * (i / 4)}, i)
		if e != api.OK {
			t.Fatal(e)
		}
		if m, e = Linked(x, a); e != api.OK {
			t.Fatal(e)
		}
	}
	return m
}

// farOut: numbers that are no index of any list.
func farOut() []int { return []int{math.MinInt, math.MinInt + 1, -1, math.MaxInt - 1, math.MaxInt} }

func isZero(m api.Mem) bool { return reflect.DeepEqual(m, api.Mem{}) }

// fault: what makes a sample wrong.
type fault struct {
	what string
	e    api.Errno
	make func(m *api.Mem)
}

// memFaults: faults that chapter 2 tells of, in its order.
func memFaults() []fault {
	return []fault{
		{"too many slots", api.ErrMany, func(m *api.Mem) {
			for len(m.Slots) <= api.MaxSlots {
				m.Slots = append(m.Slots, api.Slot{Refs: 1})
			}
		}},
		{"no chain", api.ErrMany, func(m *api.Mem) { m.Heads = nil }},
		{"a lock too few", api.ErrForm, func(m *api.Mem) { m.Locks = m.Locks[:1] }},
		{"Now", api.ErrRange, func(m *api.Mem) { m.Now = -1 }},
		{"a key that may not be", api.ErrRange, func(m *api.Mem) { m.Slots[0].K.A = api.MaxEnd + 1 }},
		{"Next of a slot in a chain", api.ErrWho, func(m *api.Mem) { m.Slots[3].Next = -3 }},
		{"Next of a slot in no chain", api.ErrWho, func(m *api.Mem) { m.Slots[4].Next = 9 }},
		{"begin is nothing", api.ErrWho, func(m *api.Mem) { m.Heads[0] = 0 }},
		{"begin is no slot", api.ErrWho, func(m *api.Mem) { m.Heads[1] = math.MaxInt }},
		{"a lock of no task", api.ErrRange, func(m *api.Mem) { m.Locks[1] = api.MaxTasks }},
		{"a free slot with Refs", api.ErrWho, func(m *api.Mem) { m.Free[0] = 6 }},
		{"a free slot twice", api.ErrTwice, func(m *api.Mem) { m.Free[1] = 7 }},
		{"a slot without Refs isn't free", api.ErrForm, func(m *api.Mem) { m.Slots[4].Refs = 0 }},
	}
}

// chainFaults: faults of the sample's chains, in the order in which Check tells of them.
func chainFaults() []fault {
	l := []fault{
		{"chain 0 begins with another end", api.ErrForm, func(m *api.Mem) { m.Heads[0] = -2 }},
		{"chain 0 begins with another chain's slot", api.ErrForm, func(m *api.Mem) { m.Heads[0] = 4 }},
	}
	l = append(l, endFaults(1, -2, 2)...)
	l = append(l, slotFaults(1, api.Key{A: 1, B: 0}, api.Key{A: 1, B: 1})...)
	l = append(l,
		fault{"chain 1 begins with another end", api.ErrForm, func(m *api.Mem) { m.Heads[1] = -1 }},
		fault{"chain 1 begins with another chain's slot", api.ErrForm, func(m *api.Mem) { m.Heads[1] = 2 }},
		fault{"chain 1 goes on in another chain", api.ErrForm, func(m *api.Mem) { m.Slots[3].Next = 2 }},
		fault{"chain 1 goes round ahead of its last slot", api.ErrForm, func(m *api.Mem) { m.Slots[3].Next = 4 }},
	)
	l = append(l, endFaults(5, -1, 1, 4, 6)...)
	l = append(l, slotFaults(0, api.Key{}, api.Key{A: 2, B: 0})...)
	l = append(l, slotFaults(3, api.Key{A: 2, B: 14}, api.Key{A: 2, B: 0})...)
	l = append(l, fault{"slot 3 has the key of slot 0", api.ErrTwice, func(m *api.Mem) { m.Slots[3].K = m.Slots[0].K }})
	l = append(l, slotFaults(5, api.Key{A: 0, B: 2}, api.Key{A: 2, B: 0})...)
	return append(l,
		fault{"slot 5 has the key of slot 0", api.ErrTwice, func(m *api.Mem) { m.Slots[5].K = m.Slots[0].K }},
		fault{"slot 5 has the key of slot 3", api.ErrTwice, func(m *api.Mem) { m.Slots[5].K = m.Slots[3].K }},
	)
}

// endFaults: the last slot of a chain ends with another end, with nothing, or with what is ahead of it.
func endFaults(last, end int, rounds ...int) []fault {
	l := []fault{
		{"another end", api.ErrForm, func(m *api.Mem) { m.Slots[last].Next = end }},
		{"ends with nothing", api.ErrForm, func(m *api.Mem) { m.Slots[last].Next = 0 }},
	}
	for _, n := range rounds {
		l = append(l, fault{"goes round", api.ErrForm, func(m *api.Mem) { m.Slots[last].Next = n }})
	}
	return l
}

// slotFaults: a slot of a chain that nobody holds, that isn't In, that has a key of another chain.
func slotFaults(a int, others ...api.Key) []fault {
	l := []fault{
		{"nobody holds a slot", api.ErrWho, func(m *api.Mem) { m.Slots[a].Refs, m.Free = 0, append(m.Free, a) }},
		{"a slot isn't In", api.ErrWho, func(m *api.Mem) { m.Slots[a].In = false }},
	}
	for _, k := range others {
		l = append(l, fault{"a key of another chain", api.ErrForm, func(m *api.Mem) { m.Slots[a].K = k }})
	}
	return l
}

func faults() []fault { return append(memFaults(), chainFaults()...) }

// P3.1: Slots

func TestSlots(t *testing.T) {
	none, _ := mem.New(0, 1)
	fresh, _ := mem.New(3, 4)
	for _, c := range []struct {
		what string
		m    api.Mem
		b    int
		want []int
	}{
		{"one slot", sample(), 0, []int{1}},
		{"some slots", sample(), 1, []int{0, 3, 5}},
		{"no slot in the chain", fresh, 3, nil},
		{"no slots at all", none, 0, nil},
		{"lists that are nil", api.Mem{Heads: []int{-1}, Locks: []int{-1}}, 0, nil},
		{"all slots", packed(t, 1), 0, []int{11, 10, 9, 8, 7, 6, 5, 4, 3, 2, 1, 0}},
		{"all slots, in the first of two chains", packed(t, 2), 0, []int{11, 10, 9, 8, 7, 6, 5, 4, 3, 2, 1, 0}},
		{"all slots are in another chain", packed(t, 2), 1, nil},
	} {
		if got, e := Slots(c.m, c.b); e != api.OK || !slices.Equal(got, c.want) {
			t.Errorf("%s: Slots(%v, %d): %v, %v, want %v, OK", c.what, c.m, c.b, got, e, c.want)
		}
	}
}

func TestSlotsAsksNothingOfTheSlots(t *testing.T) {
	for _, a := range []int{0, 3, 5} {
		for _, f := range slotFaults(a, api.Key{}, api.Key{A: 1, B: 2}) {
			if got, e := Slots(of(f.make), 1); e != api.OK || !slices.Equal(got, []int{0, 3, 5}) {
				t.Errorf("%s (%d): Slots: %v, %v, want 0, 3, 5, OK", f.what, a, got, e)
			}
		}
	}
}

func TestSlotsAsksNothingOfOtherChains(t *testing.T) {
	for _, f := range endFaults(5, -1, 1, 4, 6) {
		if got, e := Slots(of(f.make), 0); e != api.OK || !slices.Equal(got, []int{1}) {
			t.Errorf("%s in chain 1: Slots of chain 0: %v, %v, want 1, OK", f.what, got, e)
		}
	}
}

func slotsRefused(t *testing.T, what string, m api.Mem, b int, want api.Errno) {
	t.Helper()
	if got, e := Slots(m, b); got != nil || e != want {
		t.Errorf("%s: Slots(%v, %d): %v, %v, want nothing, %v", what, m, b, got, e, want)
	}
}

func TestSlotsRefuses(t *testing.T) {
	for _, b := range append(farOut(), 2, 3) {
		slotsRefused(t, "no such chain", sample(), b, api.ErrWho)
		slotsRefused(t, "no such chain, and another goes round", of(func(m *api.Mem) { m.Slots[1].Next = 2 }), b, api.ErrWho)
	}
	for _, f := range append(endFaults(1, -2, 2), fault{make: func(m *api.Mem) { m.Heads[0] = -2 }}) {
		slotsRefused(t, "chain 0: "+f.what, of(f.make), 0, api.ErrForm)
	}
	for _, f := range append(endFaults(5, -1, 1, 4, 6), fault{make: func(m *api.Mem) { m.Heads[1] = 2 }}) {
		slotsRefused(t, "chain 1: "+f.what, of(f.make), 1, api.ErrForm)
	}
	for _, f := range memFaults() {
		for _, b := range []int{-1, 0, 1, 2} {
			slotsRefused(t, f.what, of(f.make), b, f.e)
		}
	}
}

func TestSlotsOfAllSlotsThatGoRound(t *testing.T) {
	for n := range api.MaxSlots + 1 {
		m := packed(t, 1)
		m.Slots[0].Next = n
		slotsRefused(t, "all slots, going round or ending with nothing", m, 0, api.ErrForm)
	}
}

// P3.1: Check

func TestCheckTakes(t *testing.T) {
	none, _ := mem.New(0, 1)
	fresh, _ := mem.New(api.MaxSlots, api.MaxBuckets)
	for what, m := range map[string]api.Mem{
		"a sample":                             sample(),
		"no slots":                             none,
		"empty chains":                         fresh,
		"lists that are nil":                   {Heads: []int{-1}, Locks: []int{-1}},
		"all slots in one chain":               packed(t, 1),
		"all slots in one of four":             packed(t, 4),
		"most Refs":                            of(func(m *api.Mem) { m.Slots[3].Refs = api.MaxRefs }),
		"over":                                 of(func(m *api.Mem) { m.Now = api.MaxTime }),
		"a slot in no chain goes round":        of(func(m *api.Mem) { m.Slots[6].Next = 7 }),
		"a slot in no chain leads nowhere":     of(func(m *api.Mem) { m.Slots[6].Next = 0 }),
		"slots in no chain go round":           of(func(m *api.Mem) { m.Slots[6].Next, m.Slots[4].Next = 5, 7 }),
		"a slot in no chain, of a mapped key":  of(func(m *api.Mem) { m.Slots[4].K = m.Slots[0].K }),
		"slots in no chain, of one key":        of(func(m *api.Mem) { m.Slots[4].K, m.Slots[6].K = api.Key{A: 9}, api.Key{A: 9} }),
		"a key and that key turned":            of(func(m *api.Mem) { m.Slots[3].K = api.Key{A: 2, B: 1} }),
		"another order":                        of(func(m *api.Mem) { m.Heads[1], m.Slots[5].Next, m.Slots[3].Next = 6, 1, -2 }),
		"a chain that somebody has locked":     of(func(m *api.Mem) { m.Locks[0] = 0 }),
		"a chain without slots, beside others": of(func(m *api.Mem) { m.Heads[0] = -1 }),
	} {
		if e := Check(m); e != api.OK {
			t.Errorf("%s: Check(%v): %v, want OK", what, m, e)
		}
	}
}

func TestCheckRefuses(t *testing.T) {
	for _, f := range faults() {
		m := of(f.make)
		if e := Check(m); e != f.e {
			t.Errorf("%s: Check(%v): %v, want %v", f.what, m, e, f.e)
		}
	}
	if e := Check(api.Mem{}); e != api.ErrMany {
		t.Errorf("Check of the zero Mem: %v, want ErrMany", e)
	}
}

func TestCheckTellsTheFirstFault(t *testing.T) {
	l := faults()
	for j, later := range l {
		for _, first := range l[:j] {
			m := sample()
			later.make(&m)
			first.make(&m)
			if e := Check(m); e != first.e {
				t.Errorf("%s, then %s: Check(%v): %v, want %v", first.what, later.what, m, e, first.e)
			}
		}
	}
}

func TestCheckOfTheLastSlotOfAll(t *testing.T) {
	m := packed(t, 2)
	m.Slots[0].K = m.Slots[11].K
	if e := Check(m); e != api.ErrTwice {
		t.Errorf("Check of a key that is first and last of all slots: %v, want ErrTwice", e)
	}
	m.Slots[0].K = api.Key{A: 1}
	if e := Check(m); e != api.ErrForm {
		t.Errorf("Check of a last slot with another chain's key: %v, want ErrForm", e)
	}
}

// alongChain tells of a chain by what it has seen, not by how far it has gone.
func alongChain(m api.Mem, b int) ([]int, bool) {
	var l []int
	n := m.Heads[b]
	for n > 0 {
		if slices.Contains(l, n-1) {
			return nil, false
		}
		l = append(l, n-1)
		n = m.Slots[n-1].Next
	}
	return l, n+b+1 == 0
}

// expected answers what Check is to say of memory with which nothing is wrong in chapter 2.
func expected(m api.Mem) api.Errno {
	var ahead []api.Key
	for b := range m.Heads {
		l, right := alongChain(m, b)
		if !right {
			return api.ErrForm
		}
		for _, a := range l {
			s := m.Slots[a]
			own, _ := key.Bucket(s.K, len(m.Heads))
			switch {
			case s.Refs < 1, !s.In:
				return api.ErrWho
			case own != b:
				return api.ErrForm
			case slices.Contains(ahead, s.K):
				return api.ErrTwice
			}
			ahead = append(ahead, s.K)
		}
	}
	return api.OK
}

// choices goes through all lists of so many numbers from least to most.
func choices(many, least, most int, do func(l []int)) {
	l := slices.Repeat([]int{least}, many)
	for {
		do(l)
		i := 0
		for i < many && l[i] == most {
			l[i] = least
			i++
		}
		if i == many {
			return
		}
		l[i]++
	}
}

// small: memory of three slots and two chains by what stands where, how slots are (0: free, 1: not In, 2: In), and which keys they have.
func small(stands, how, keys []int) api.Mem {
	m := api.Mem{Heads: slices.Clone(stands[3:]), Locks: []int{-1, -1}}
	for a := range 3 {
		s := api.Slot{K: []api.Key{{A: 0, B: 2}, {A: 0, B: 1}, {A: 1, B: 0}}[keys[a]], Next: stands[a]}
		switch how[a] {
		case 0:
			m.Free = append(m.Free, a)
		case 1:
			s.Refs = 1
		case 2:
			s.Refs, s.In = 1, true
		}
		m.Slots = append(m.Slots, s)
	}
	return m
}

func checkSmall(t *testing.T, m api.Mem) {
	t.Helper()
	if got, want := Check(m), expected(m); got != want {
		t.Fatalf("Check(%v): %v, want %v", m, got, want)
	}
	for b := range m.Heads {
		want, right := alongChain(m, b)
		got, e := Slots(m, b)
		if !right && (got != nil || e != api.ErrForm) || right && (e != api.OK || !slices.Equal(got, want)) {
			t.Fatalf("Slots(%v, %d): %v, %v, want %v, %v", m, b, got, e, want, right)
		}
	}
}

// All that may stand in small memory, with slots of all kinds and some keys, then with all keys and slots that are right.
func TestCheckOfSmallMemory(t *testing.T) {
	many := 0
	someKeys := [][]int{{0, 1, 2}, {1, 1, 2}, {1, 2, 1}, {2, 0, 0}}
	choices(5, -2, 3, func(stands []int) {
		if stands[3] == 0 || stands[4] == 0 {
			return
		}
		choices(3, 0, 2, func(how []int) {
			for _, keys := range someKeys {
				checkSmall(t, small(stands, how, keys))
				many++
			}
		})
	})
	choices(3, 0, 2, func(keys []int) {
		choices(5, -2, 3, func(stands []int) {
			if stands[3] != 0 && stands[4] != 0 {
				checkSmall(t, small(stands, []int{2, 2, 2}, keys))
				many++
			}
		})
	})
	if want := 216 * 25 * 27 * 5; many != want {
		t.Errorf("%d of them, want %d", many, want)
	}
}

// P3.2

func TestFlows(t *testing.T) {
	none, _ := mem.New(4, 3)
	var all []api.Flow
	for a := api.MaxSlots - 1; a >= 0; a-- {
		all = append(all, api.Flow{K: api.Key{A: 4 * (a % 4), B: 4 * (a / 4)}, Slot: a, Until: a})
	}
	for _, c := range []struct {
		what string
		m    api.Mem
		want []api.Flow
	}{
		{"a sample", sample(), []api.Flow{
			{K: api.Key{A: 2, B: 0}, Slot: 1, Until: 6},
			{K: api.Key{A: 1, B: 2}, Slot: 0, Until: 5},
			{K: api.Key{A: 0, B: 1}, Slot: 3, Until: 7},
			{K: api.Key{A: 1, B: 1}, Slot: 5, Until: 8},
		}},
		{"chain 1 in another order, chain 0 empty", of(func(m *api.Mem) {
			m.Heads, m.Slots[5].Next, m.Slots[3].Next = []int{-1, 6}, 1, -2
		}), []api.Flow{
			{K: api.Key{A: 1, B: 1}, Slot: 5, Until: 8},
			{K: api.Key{A: 1, B: 2}, Slot: 0, Until: 5},
			{K: api.Key{A: 0, B: 1}, Slot: 3, Until: 7},
		}},
		{"nothing is mapped", none, nil},
		{"all slots", packed(t, 2), all},
	} {
		if got, e := Flows(c.m); e != api.OK || !slices.Equal(got, c.want) {
			t.Errorf("%s: Flows(%v): %v, %v, want %v, OK", c.what, c.m, got, e, c.want)
		}
	}
}

func TestFlowsTellsWhatIsOver(t *testing.T) {
	m := of(func(m *api.Mem) { m.Now = api.MaxTime })
	got, e := Flows(m)
	want, _ := Flows(sample())
	if e != api.OK || !slices.Equal(got, want) {
		t.Errorf("Flows of what is over: %v, %v, want %v, OK", got, e, want)
	}
}

func TestFlowsRefuses(t *testing.T) {
	for _, f := range faults() {
		if got, e := Flows(of(f.make)); got != nil || e != f.e {
			t.Errorf("%s: Flows: %v, %v, want nothing, %v", f.what, got, e, f.e)
		}
	}
}

// P3.3: Linked

func TestLinked(t *testing.T) {
	fresh := api.Mem{
		Slots: []api.Slot{{Refs: 1, K: api.Key{A: 1, B: 2}, Until: 5}, {}},
		Heads: []int{-1, -2, -3}, Free: []int{1}, Locks: []int{-1, -1, -1},
	}
	for _, c := range []struct {
		what   string
		m      api.Mem
		a      int
		change func(m *api.Mem)
	}{
		{"ahead of one other", sample(), 4, func(m *api.Mem) {
			m.Slots[4].Next, m.Slots[4].In, m.Heads[0] = 2, true, 5
		}},
		{"into an empty chain", of(func(m *api.Mem) { m.Heads[0] = -1 }), 4, func(m *api.Mem) {
			m.Slots[4].Next, m.Slots[4].In, m.Heads[0] = -1, true, 5
		}},
		{"ahead of others", of(func(m *api.Mem) { m.Slots[6].K = api.Key{A: 9, B: 9} }), 6, func(m *api.Mem) {
			m.Slots[6].Next, m.Heads[1] = 1, 7
		}},
		{"a slot that was cut out, whose key is not mapped any more", of(func(m *api.Mem) { m.Slots[0].Next = 6 }), 3, func(m *api.Mem) {
			m.Slots[3].Next, m.Heads[1] = 1, 4
		}},
		{"another slot of that key", of(func(m *api.Mem) { m.Slots[0].Next = 6 }), 6, func(m *api.Mem) {
			m.Slots[6].Next, m.Heads[1] = 1, 7
		}},
		{"most Refs", of(func(m *api.Mem) { m.Slots[4].Refs = api.MaxRefs }), 4, func(m *api.Mem) {
			m.Slots[4].Next, m.Slots[4].In, m.Heads[0] = 2, true, 5
		}},
		{"nothing stood behind it", fresh, 0, func(m *api.Mem) {
			m.Slots[0].Next, m.Slots[0].In, m.Heads[0] = -1, true, 1
		}},
	} {
		want := wholeCopy(c.m)
		c.change(&want)
		got, e := Linked(c.m, c.a)
		if e != api.OK || !mem.Same(got, want) {
			t.Errorf("%s: Linked(%v, %d): %v, %v, want %v, OK", c.what, c.m, c.a, got, e, want)
		}
		if e := Check(got); e != api.OK {
			t.Errorf("%s: Check of what is linked: %v, want OK", c.what, e)
		}
	}
}

func TestLinkedIntoEachChain(t *testing.T) {
	for buckets := 1; buckets <= api.MaxBuckets; buckets++ {
		for a := range api.MaxEnd + 1 {
			for b := range api.MaxEnd + 1 {
				k := api.Key{A: a, B: b}
				own, _ := key.Bucket(k, buckets)
				m, _ := mem.New(1, buckets)
				m, _, _ = mem.Taken(m, k, 3)
				m, e := Linked(m, 0)
				if l, _ := Slots(m, own); e != api.OK || !slices.Equal(l, []int{0}) {
					t.Errorf("Linked of %v into chain %d of %d: %v, %v", k, own, buckets, m, e)
				}
			}
		}
	}
}

func linkedRefused(t *testing.T, what string, m api.Mem, a int, want api.Errno) {
	t.Helper()
	if got, e := Linked(m, a); !isZero(got) || e != want {
		t.Errorf("%s: Linked(%v, %d): %v, %v, want nothing, %v", what, m, a, got, e, want)
	}
}

func TestLinkedRefuses(t *testing.T) {
	none, _ := mem.New(0, 1)
	for _, a := range append(farOut(), 8, 9) {
		linkedRefused(t, "no such slot", sample(), a, api.ErrWho)
	}
	linkedRefused(t, "no slots", none, 0, api.ErrWho)
	linkedRefused(t, "nobody holds it", sample(), 7, api.ErrLate)
	linkedRefused(t, "nobody holds it, and its key is mapped", sample(), 2, api.ErrLate)
	for _, a := range []int{0, 1, 3, 5} {
		linkedRefused(t, "it is in its chain", sample(), a, api.ErrTwice)
	}
	linkedRefused(t, "another slot of its key is in the chain", sample(), 6, api.ErrTwice)
	for _, a := range []int{0, 1, 5} {
		m := of(func(m *api.Mem) { m.Slots[4].K = m.Slots[a].K })
		linkedRefused(t, "another slot of its key is in the chain, it isn't In", m, 4, api.ErrTwice)
	}
	for _, f := range faults() {
		for _, a := range []int{-1, 0, 7, 8} {
			linkedRefused(t, f.what, of(f.make), a, f.e)
		}
	}
}

// P3.3: Without

func TestWithout(t *testing.T) {
	for _, c := range []struct {
		what   string
		k      api.Key
		a      int
		change func(m *api.Mem)
	}{
		{"the only one", api.Key{A: 2, B: 0}, 1, func(m *api.Mem) { m.Heads[0] = -1 }},
		{"the first", api.Key{A: 1, B: 2}, 0, func(m *api.Mem) { m.Heads[1] = 4 }},
		{"a middle one, another slot having its key", api.Key{A: 0, B: 1}, 3, func(m *api.Mem) { m.Slots[0].Next = 6 }},
		{"the last", api.Key{A: 1, B: 1}, 5, func(m *api.Mem) { m.Slots[3].Next = -2 }},
	} {
		got, a, e := Without(sample(), c.k)
		want := of(c.change)
		if e != api.OK || a != c.a || !mem.Same(got, want) {
			t.Errorf("%s: Without(sample, %v): %v, %d, %v, want %v, %d, OK", c.what, c.k, got, a, e, want, c.a)
		}
		if got.Slots[a] != sample().Slots[a] {
			t.Errorf("%s: the slot that is cut out: %v, was %v", c.what, got.Slots[a], sample().Slots[a])
		}
		if e := Check(got); e != api.OK {
			t.Errorf("%s: Check of what is left: %v, want OK", c.what, e)
		}
		if m, a, e := Without(got, c.k); !isZero(m) || a != 0 || e != api.ErrWho {
			t.Errorf("%s, twice: %v, %d, %v, want nothing, 0, ErrWho", c.what, m, a, e)
		}
	}
}

func TestWithoutEachOfAllSlots(t *testing.T) {
	start := packed(t, 2)
	all, _ := Slots(start, 0)
	for i, a := range all {
		got, cutOut, e := Without(start, start.Slots[a].K)
		left, _ := Slots(got, 0)
		if want := slices.Concat(all[:i], all[i+1:]); e != api.OK || cutOut != a || !slices.Equal(left, want) {
			t.Errorf("Without slot %d: %v, %d, %v, want %v", a, left, cutOut, e, want)
		}
	}
}

func TestWithoutRefuses(t *testing.T) {
	refused := func(what string, m api.Mem, k api.Key, want api.Errno) {
		t.Helper()
		if got, a, e := Without(m, k); !isZero(got) || a != 0 || e != want {
			t.Errorf("%s: Without(%v, %v): %v, %d, %v, want nothing, 0, %v", what, m, k, got, a, e, want)
		}
	}
	var wrong []api.Key
	for _, end := range []int{-1, api.MaxEnd + 1, math.MinInt, math.MaxInt} {
		wrong = append(wrong, api.Key{A: end}, api.Key{B: end}, api.Key{A: end, B: end})
	}
	none, _ := mem.New(0, 1)
	for _, k := range wrong {
		refused("ends that may not be", sample(), k, api.ErrRange)
		refused("ends that may not be, and no slots", none, k, api.ErrRange)
	}
	refused("no slots", none, api.Key{}, api.ErrWho)
	refused("no slot has it", sample(), api.Key{A: api.MaxEnd, B: api.MaxEnd}, api.ErrWho)
	refused("no slot that is held has it", sample(), api.Key{}, api.ErrWho)
	refused("turned, it is mapped", sample(), api.Key{A: 2, B: 1}, api.ErrWho)
	refused("a slot that is not linked has it", sample(), api.Key{A: 2, B: 2}, api.ErrWho)
	refused("a slot that was cut out has it", of(func(m *api.Mem) { m.Slots[0].Next = 6 }), api.Key{A: 0, B: 1}, api.ErrWho)
	for _, f := range faults() {
		for _, k := range append(wrong, api.Key{A: 1, B: 2}, api.Key{A: 9}) {
			refused(f.what, of(f.make), k, f.e)
		}
	}
}

func TestLinkedAgainIsFirst(t *testing.T) {
	for _, c := range []struct {
		k    api.Key
		want []int
	}{
		{api.Key{A: 1, B: 2}, []int{0, 3, 5}},
		{api.Key{A: 0, B: 1}, []int{3, 0, 5}},
		{api.Key{A: 1, B: 1}, []int{5, 0, 3}},
	} {
		m, a, _ := Without(sample(), c.k)
		m, e := Linked(m, a)
		if got, _ := Slots(m, 1); e != api.OK || !slices.Equal(got, c.want) {
			t.Errorf("%v cut out and linked again: %v, %v, want %v", c.k, got, e, c.want)
		}
	}
}

// P3.4

// model: what is mapped, the last linked first, chain by chain.
type model [2][]api.Flow

func (f model) of(k api.Key) int {
	b, _ := key.Bucket(k, 2)
	return slices.IndexFunc(f[b], func(x api.Flow) bool { return x.K == k })
}

func (f model) with(x api.Flow) model {
	b, _ := key.Bucket(x.K, 2)
	f[b] = slices.Concat([]api.Flow{x}, f[b])
	return f
}

func (f model) without(k api.Key) model {
	b, _ := key.Bucket(k, 2)
	f[b] = slices.DeleteFunc(slices.Clone(f[b]), func(x api.Flow) bool { return x.K == k })
	return f
}

// fewKeys: two of chain 1, one of chain 0.
func fewKeys() []api.Key { return []api.Key{{A: 1, B: 2}, {A: 0, B: 1}, {A: 2, B: 2}} }

// eachWay goes through all ways to take, link, cut out and put, so many calls long.
func eachWay(t *testing.T, m api.Mem, f model, many int) {
	got, e := Flows(m)
	if e != api.OK || !slices.Equal(got, slices.Concat(f[0], f[1])) {
		t.Fatalf("Flows(%v): %v, %v, want %v, OK", m, got, e, f)
	}
	if many == 0 {
		return
	}
	for _, k := range fewKeys() {
		if x, _, e := mem.Taken(m, k, many); e == api.OK {
			eachWay(t, x, f, many-1)
		}
		cutNext(t, m, f, k, many)
	}
	for a := range m.Slots {
		linkNext(t, m, f, a, many)
		putNext(t, m, f, a, many)
	}
}

func cutNext(t *testing.T, m api.Mem, f model, k api.Key, many int) {
	b, _ := key.Bucket(k, 2)
	i := f.of(k)
	x, a, e := Without(m, k)
	if i < 0 {
		if e != api.ErrWho {
			t.Fatalf("Without(%v, %v): %v, want ErrWho", m, k, e)
		}
		return
	}
	if e != api.OK || a != f[b][i].Slot || !slices.Equal(x.Free, m.Free) || x.Slots[a] != m.Slots[a] {
		t.Fatalf("Without(%v, %v): %v, %d, %v, want slot %d as it was, OK", m, k, x, a, e, f[b][i].Slot)
	}
	eachWay(t, x, f.without(k), many-1)
}

func linkNext(t *testing.T, m api.Mem, f model, a, many int) {
	s := m.Slots[a]
	want := api.OK
	if s.Refs == 0 {
		want = api.ErrLate
	} else if f.of(s.K) >= 0 {
		want = api.ErrTwice
	}
	x, e := Linked(m, a)
	if e != want {
		t.Fatalf("Linked(%v, %d): %v, want %v", m, a, e, want)
	}
	if e == api.OK {
		eachWay(t, x, f.with(api.Flow{K: s.K, Slot: a, Until: s.Until}), many-1)
	}
}

// putNext leaves slots that are mapped: a chain would have a free one.
func putNext(t *testing.T, m api.Mem, f model, a, many int) {
	if l := slices.Concat(f[0], f[1]); slices.ContainsFunc(l, func(x api.Flow) bool { return x.Slot == a }) {
		return
	}
	if x, e := mem.Let(m, a); e == api.OK {
		eachWay(t, x, f, many-1)
	}
}

func TestEachWayToLinkAndCutOut(t *testing.T) {
	m, _ := mem.New(3, 2)
	eachWay(t, m, model{}, 6)
}

// DOC.md, P2

func wholeCopy(m api.Mem) api.Mem {
	return api.Mem{Slots: slices.Clone(m.Slots), Heads: slices.Clone(m.Heads), Free: slices.Clone(m.Free), Locks: slices.Clone(m.Locks), Now: m.Now}
}

// spacious answers m with lists that have spare room behind them, with marks in all of it, and the whole of these lists.
func spacious(m api.Mem) (api.Mem, api.Mem) {
	marks := slices.Repeat([]int{77}, 5)
	whole := api.Mem{
		Slots: slices.Concat(m.Slots, slices.Repeat([]api.Slot{{Refs: 77, Next: 77}}, 5)),
		Heads: slices.Concat(m.Heads, marks),
		Free:  slices.Concat(m.Free, marks),
		Locks: slices.Concat(m.Locks, marks),
		Now:   m.Now,
	}
	return api.Mem{
		Slots: whole.Slots[:len(m.Slots)],
		Heads: whole.Heads[:len(m.Heads)],
		Free:  whole.Free[:len(m.Free)],
		Locks: whole.Locks[:len(m.Locks)],
		Now:   m.Now,
	}, whole
}

// fill writes over all of a list, the spare room behind it too.
func fill[T any](l []T, mark T) {
	l = l[:cap(l)]
	for i := range l {
		l[i] = mark
	}
}

func scribble(m api.Mem, mark int) {
	fill(m.Slots, api.Slot{Refs: mark, Next: mark})
	fill(m.Heads, mark)
	fill(m.Free, mark)
	fill(m.Locks, mark)
}

// answer of a call: the lists that it has.
type answer struct {
	m     api.Mem
	slots []int
	flows []api.Flow
}

func (x answer) copy() answer {
	return answer{wholeCopy(x.m), slices.Clone(x.slots), slices.Clone(x.flows)}
}

func (x answer) like(y answer) bool {
	return mem.Same(x.m, y.m) && slices.Equal(x.slots, y.slots) && slices.Equal(x.flows, y.flows)
}

func (x answer) scribble(mark int) {
	scribble(x.m, mark)
	fill(x.slots, mark)
	fill(x.flows, api.Flow{Slot: mark})
}

// calls: each call of this package, some of them in several ways.
func calls() map[string]func(m api.Mem) answer {
	l := map[string]func(m api.Mem) answer{
		"Check":        func(m api.Mem) answer { Check(m); return answer{} },
		"Flows":        func(m api.Mem) answer { l, _ := Flows(m); return answer{flows: l} },
		"Slots of 0":   func(m api.Mem) answer { l, _ := Slots(m, 0); return answer{slots: l} },
		"Slots of 1":   func(m api.Mem) answer { l, _ := Slots(m, 1); return answer{slots: l} },
		"Linked":       func(m api.Mem) answer { x, _ := Linked(m, 4); return answer{m: x} },
		"Linked again": func(m api.Mem) answer { x, _ := Linked(m, 6); return answer{m: x} },
	}
	for what, k := range map[string]api.Key{"only": {A: 2}, "first": {A: 1, B: 2}, "middle": {B: 1}, "last": {A: 1, B: 1}, "none": {A: 9}} {
		l["Without "+what] = func(m api.Mem) answer { x, _, _ := Without(m, k); return answer{m: x} }
	}
	return l
}

// starts: memory of which each call has something to answer, and such that it refuses.
func starts() []api.Mem {
	return []api.Mem{
		sample(),
		of(func(m *api.Mem) { m.Slots[6].K = api.Key{A: 9, B: 9} }),
		of(func(m *api.Mem) { m.Slots[2].Refs, m.Slots[7].Refs, m.Free = 1, 1, nil }),
		of(func(m *api.Mem) { m.Slots, m.Free, m.Heads = nil, nil, []int{-1, -2} }),
		of(func(m *api.Mem) { m.Slots[5].Next = 1 }),
		{},
	}
}

func TestWhatIsHandedInIsOnlyRead(t *testing.T) {
	for what, call := range calls() {
		for _, start := range starts() {
			m, whole := spacious(start)
			before := wholeCopy(whole)
			got := call(m)
			if !mem.Same(whole, before) {
				t.Errorf("%s changes what is handed in: %v, was %v", what, whole, before)
			}
			got.scribble(88)
			if !mem.Same(whole, before) {
				t.Errorf("%s answers memory that it was handed: %v, was %v", what, whole, before)
			}
			again := call(m)
			kept := again.copy()
			scribble(whole, 99)
			if !again.like(kept) {
				t.Errorf("%s answers memory that is changed with what was handed in: %v, was %v", what, again, kept)
			}
		}
	}
}

func TestListsOfOneAnswerShareNothing(t *testing.T) {
	for what, call := range calls() {
		for _, start := range starts() {
			x := call(start)
			lists := [][]int{x.m.Heads, x.m.Free, x.m.Locks}
			for i, l := range lists {
				fill(l, 100+i)
			}
			for i, l := range lists {
				if slices.ContainsFunc(l[:cap(l)], func(n int) bool { return n != 100+i }) {
					t.Errorf("%s answers lists that share memory", what)
				}
			}
		}
	}
}

func TestAnswersHangOnArgumentsAlone(t *testing.T) {
	for what, call := range calls() {
		for _, start := range starts() {
			first := call(start)
			kept := first.copy()
			second := call(start)
			if !first.like(second) {
				t.Errorf("%s answers %v, then %v", what, first, second)
			}
			second.scribble(88)
			if !first.like(kept) {
				t.Errorf("%s answers memory that it answered already", what)
			}
		}
	}
}

func TestListsWithoutAnythingMayBeNilOrEmpty(t *testing.T) {
	none := api.Mem{Heads: []int{-1}, Locks: []int{-1}}
	empty := api.Mem{Slots: []api.Slot{}, Heads: []int{-1}, Free: []int{}, Locks: []int{-1}}
	for what, call := range calls() {
		if !call(none).like(call(empty)) {
			t.Errorf("%s tells nil lists from empty ones", what)
		}
	}
}
