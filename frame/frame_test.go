package frame

import (
	"math"
	"reflect"
	"slices"
	"testing"

	"turnstile/api"
	"turnstile/key"
	"turnstile/mem"
)

// sized: memory of so many slots and chains that chapter 2 has nothing against.
func sized(t *testing.T, many, buckets int) api.Mem {
	t.Helper()
	m, e := mem.New(many, buckets)
	if e != api.OK {
		t.Fatal(e)
	}
	return m
}

// wild: memory of so many slots and chains in which all else is as it may not be.
func wild(many, buckets int) api.Mem {
	m := api.Mem{Free: []int{math.MaxInt, -1, -1}, Locks: []int{math.MinInt}, Now: -1}
	for range many {
		m.Slots = append(m.Slots, api.Slot{Refs: -1, K: api.Key{A: -1, B: math.MaxInt}, Until: -1, Next: math.MinInt})
	}
	for range buckets {
		m.Heads = append(m.Heads, math.MaxInt)
	}
	return m
}

// farOut: numbers that no field may have, and no list has a place for.
func farOut() []int { return []int{math.MinInt, math.MinInt + 1, math.MaxInt - 1, math.MaxInt} }

// kinds: all Kinds of calls that there are.
func kinds() []int {
	return []int{api.Look, api.Add, api.Drop, api.Sweep, api.List, api.Leave}
}

// wrongKinds: numbers that are no Kind.
func wrongKinds() []int { return append(farOut(), -1, 0, 7, 8) }

// rightCall: a call of that Kind that may be in memory of a slot and a chain.
func rightCall(kind int) api.Call { return api.Call{Kind: kind, K: api.Key{A: 1, B: 2}, Time: 3} }

// full: a frame of which no field is zero, in the midst of a List of memory of 4 slots and 2 chains.
func full() api.Frame {
	return api.Frame{
		C:    api.Call{Kind: api.List, K: api.Key{A: 3, B: 4}, Time: 5, Bucket: 1, Slot: 2},
		At:   2,
		Cur:  -1,
		Prev: 3,
		Slot: 1,
		N:    6,
		Keys: []api.Key{{A: 1, B: 2}, {A: 3, B: 4}},
		E:    api.ErrLate,
	}
}

// P4.1: New

func TestNew(t *testing.T) {
	calls := []api.Call{
		{},
		full().C,
		{Kind: math.MinInt, K: api.Key{A: math.MaxInt, B: -1}, Time: math.MinInt, Bucket: math.MaxInt, Slot: math.MinInt},
	}
	for _, kind := range kinds() {
		calls = append(calls, rightCall(kind))
	}
	for _, c := range calls {
		if got := New(c); !reflect.DeepEqual(got, api.Frame{C: c, Slot: -1}) {
			t.Errorf("New(%v): %v", c, got)
		}
	}
}

func TestNewCanGoOn(t *testing.T) {
	for _, kind := range kinds() {
		if e := Check(sized(t, 1, 1), New(rightCall(kind))); e != api.OK {
			t.Errorf("Check of New of a call of Kind %d: %v", kind, e)
		}
	}
}

// P4.1: CheckCall

// callCase: what CheckCall answers of c in memory of 3 slots and 2 chains.
type callCase struct {
	c    api.Call
	want api.Errno
}

func keyCases() []callCase {
	var l []callCase
	for _, kind := range []int{api.Look, api.Drop, api.Add} {
		for _, a := range append(farOut(), -1, 0, 1, api.MaxEnd, api.MaxEnd+1) {
			for _, b := range append(farOut(), -1, 0, 2, api.MaxEnd, api.MaxEnd+1) {
				want := api.ErrRange
				if 0 <= a && a <= 15 && 0 <= b && b <= 15 {
					want = api.OK
				}
				l = append(l, callCase{api.Call{Kind: kind, K: api.Key{A: a, B: b}, Time: 1}, want})
			}
		}
	}
	return l
}

func timeCases() []callCase {
	var l []callCase
	for _, time := range []int{1, 2, api.MaxTime - 1, api.MaxTime} {
		l = append(l, callCase{api.Call{Kind: api.Add, Time: time}, api.OK})
		l = append(l, callCase{api.Call{Kind: api.Add, Time: time, K: api.Key{A: -1}}, api.ErrRange})
	}
	for _, time := range append(farOut(), -1, 0, api.MaxTime+1) {
		l = append(l, callCase{api.Call{Kind: api.Add, Time: time}, api.ErrRange})
		l = append(l, callCase{api.Call{Kind: api.Add, Time: time, K: api.Key{A: -1}}, api.ErrRange})
	}
	return l
}

func placeCases() []callCase {
	var l []callCase
	for _, kind := range []int{api.Sweep, api.List} {
		for _, b := range []int{0, 1} {
			l = append(l, callCase{api.Call{Kind: kind, Bucket: b}, api.OK})
		}
		for _, b := range append(farOut(), -2, -1, 2, 3) {
			l = append(l, callCase{api.Call{Kind: kind, Bucket: b}, api.ErrWho})
		}
	}
	for _, a := range []int{0, 1, 2} {
		l = append(l, callCase{api.Call{Kind: api.Leave, Slot: a}, api.OK})
	}
	for _, a := range append(farOut(), -1, 3, 4) {
		l = append(l, callCase{api.Call{Kind: api.Leave, Slot: a}, api.ErrWho})
	}
	return l
}

func callCases() []callCase {
	l := slices.Concat(keyCases(), timeCases(), placeCases())
	for _, kind := range wrongKinds() {
		l = append(l, callCase{api.Call{Kind: kind}, api.ErrForm})
		l = append(l, callCase{api.Call{Kind: kind, K: api.Key{A: -1}, Time: -1, Bucket: 9, Slot: -1}, api.ErrForm})
	}
	return l
}

func TestCheckCall(t *testing.T) {
	for _, x := range callCases() {
		if got := CheckCall(sized(t, 3, 2), x.c); got != x.want {
			t.Errorf("CheckCall(3 slots, 2 chains; %+v): %v, want %v", x.c, got, x.want)
		}
	}
}

// A call is asked for what its Kind needs, and for nothing else.
func TestCheckCallAsksNothingElse(t *testing.T) {
	for _, out := range append(farOut(), -1) {
		no := api.Key{A: out, B: out}
		yes := api.Key{A: 15, B: 0}
		for _, c := range []api.Call{
			{Kind: api.Look, K: yes, Time: out, Bucket: out, Slot: out},
			{Kind: api.Drop, K: yes, Time: out, Bucket: out, Slot: out},
			{Kind: api.Add, K: yes, Time: api.MaxTime, Bucket: out, Slot: out},
			{Kind: api.Sweep, K: no, Time: out, Bucket: 1, Slot: out},
			{Kind: api.List, K: no, Time: out, Bucket: 1, Slot: out},
			{Kind: api.Leave, K: no, Time: out, Bucket: out, Slot: 2},
		} {
			if got := CheckCall(sized(t, 3, 2), c); got != api.OK {
				t.Errorf("CheckCall(3 slots, 2 chains; %+v): %v, want OK", c, got)
			}
		}
	}
}

func TestCheckCallTakesAnyMemory(t *testing.T) {
	for _, x := range callCases() {
		if got := CheckCall(wild(3, 2), x.c); got != x.want {
			t.Errorf("CheckCall(wild memory; %+v): %v, want %v", x.c, got, x.want)
		}
	}
	for _, kind := range []int{api.Look, api.Add, api.Drop} {
		if got := CheckCall(api.Mem{}, rightCall(kind)); got != api.OK {
			t.Errorf("CheckCall(no memory, Kind %d): %v, want OK", kind, got)
		}
	}
	for _, kind := range []int{api.Sweep, api.List, api.Leave} {
		if got := CheckCall(api.Mem{}, rightCall(kind)); got != api.ErrWho {
			t.Errorf("CheckCall(no memory, Kind %d): %v, want ErrWho", kind, got)
		}
	}
}

// The chains there are, are those that begin somewhere: neither locks nor slots count.
func TestCheckCallCounts(t *testing.T) {
	many := wild(40, 30)
	for _, x := range []struct {
		m    api.Mem
		c    api.Call
		want api.Errno
	}{
		{many, api.Call{Kind: api.Sweep, Bucket: 29}, api.OK},
		{many, api.Call{Kind: api.List, Bucket: 30}, api.ErrWho},
		{many, api.Call{Kind: api.Leave, Slot: 39}, api.OK},
		{many, api.Call{Kind: api.Leave, Slot: 40}, api.ErrWho},
		{sized(t, 0, 4), api.Call{Kind: api.List, Bucket: 3}, api.OK},
		{sized(t, 0, 4), api.Call{Kind: api.Leave}, api.ErrWho},
		{sized(t, 12, 1), api.Call{Kind: api.Sweep, Bucket: 1}, api.ErrWho},
		{sized(t, 12, 1), api.Call{Kind: api.Leave, Slot: 11}, api.OK},
		{api.Mem{Locks: []int{-1, -1}}, api.Call{Kind: api.Sweep}, api.ErrWho},
		{api.Mem{Free: []int{0}}, api.Call{Kind: api.Leave}, api.ErrWho},
	} {
		if got := CheckCall(x.m, x.c); got != x.want {
			t.Errorf("CheckCall(%d slots, %d chains; %+v): %v, want %v", len(x.m.Slots), len(x.m.Heads), x.c, got, x.want)
		}
	}
}

// P4.1: Check

// change of a frame that may be in memory of 4 slots and 2 chains.
type change struct {
	what string
	e    api.Errno
	make func(f *api.Frame)
}

// edges: changes by which a frame comes to the least or the most that its fields may be.
func edges() []change {
	return []change{
		{"nothing", api.OK, func(f *api.Frame) {}},
		{"At 0", api.OK, func(f *api.Frame) { f.At = 0 }},
		{"At 9", api.OK, func(f *api.Frame) { f.At = 9 }},
		{"N 0", api.OK, func(f *api.Frame) { f.N = 0 }},
		{"N MaxTime", api.OK, func(f *api.Frame) { f.N = api.MaxTime }},
		{"Cur at the last slot", api.OK, func(f *api.Frame) { f.Cur = 4 }},
		{"Cur at nothing", api.OK, func(f *api.Frame) { f.Cur = 0 }},
		{"Cur at the last end", api.OK, func(f *api.Frame) { f.Cur = -2 }},
		{"Prev 0", api.OK, func(f *api.Frame) { f.Prev = 0 }},
		{"Prev at the last slot", api.OK, func(f *api.Frame) { f.Prev = 4 }},
		{"Slot -1", api.OK, func(f *api.Frame) { f.Slot = -1 }},
		{"Slot 0", api.OK, func(f *api.Frame) { f.Slot = 0 }},
		{"the last Slot", api.OK, func(f *api.Frame) { f.Slot = 3 }},
		{"no Keys", api.OK, func(f *api.Frame) { f.Keys = nil }},
		{"empty Keys", api.OK, func(f *api.Frame) { f.Keys = []api.Key{} }},
		{"as many Keys as there can be", api.OK, func(f *api.Frame) { f.Keys = make([]api.Key, api.MaxCalls) }},
		{"Keys that are none", api.OK, func(f *api.Frame) { f.Keys = []api.Key{{A: -1, B: math.MaxInt}} }},
		{"Keys twice", api.OK, func(f *api.Frame) { f.Keys = make([]api.Key, 2) }},
		{"E of any kind", api.OK, func(f *api.Frame) { f.E = math.MinInt }},
	}
}

// faults: changes by which a frame may not be, in the order in which they are told.
func faults() []change {
	l := []change{
		{"another Kind", api.ErrForm, func(f *api.Frame) { f.C.Kind = 7 }},
		{"no such chain", api.ErrWho, func(f *api.Frame) { f.C.Bucket = 2 }},
	}
	for _, n := range append(farOut(), -1, 10) {
		l = append(l, change{"At", api.ErrRange, func(f *api.Frame) { f.At = n }})
	}
	for _, n := range append(farOut(), -1, api.MaxTime+1) {
		l = append(l, change{"N", api.ErrRange, func(f *api.Frame) { f.N = n }})
	}
	l = append(l, change{"Done", api.ErrRange, func(f *api.Frame) { f.Done = true }})
	for _, n := range append(farOut(), -3, 5) {
		l = append(l, change{"Cur", api.ErrWho, func(f *api.Frame) { f.Cur = n }})
	}
	for _, n := range append(farOut(), -1, 5) {
		l = append(l, change{"Prev", api.ErrWho, func(f *api.Frame) { f.Prev = n }})
	}
	for _, n := range append(farOut(), -2, 4) {
		l = append(l, change{"Slot", api.ErrWho, func(f *api.Frame) { f.Slot = n }})
	}
	return append(l,
		change{"a key too many", api.ErrMany, func(f *api.Frame) { f.Keys = make([]api.Key, api.MaxCalls+1) }},
		change{"far too many keys", api.ErrMany, func(f *api.Frame) { f.Keys = make([]api.Key, 100*api.MaxCalls) }},
	)
}

func TestCheck(t *testing.T) {
	for _, m := range []api.Mem{sized(t, 4, 2), wild(4, 2)} {
		for _, x := range append(edges(), faults()...) {
			f := full()
			x.make(&f)
			if got := Check(m, f); got != x.e {
				t.Errorf("%s: Check(%v, %+v): %v, want %v", x.what, m, f, got, x.e)
			}
		}
	}
}

func TestCheckTellsTheFirstFault(t *testing.T) {
	m := sized(t, 4, 2)
	for i, first := range faults() {
		for _, then := range faults()[i:] {
			f := full()
			first.make(&f)
			if first.what != then.what {
				then.make(&f)
			}
			if got := Check(m, f); got != first.e {
				t.Errorf("%s, %s: Check(%+v): %v, want %v", first.what, then.what, f, got, first.e)
			}
		}
	}
}

func TestCheckTellsOfTheCallFirst(t *testing.T) {
	for _, x := range callCases() {
		f := full()
		f.C = x.c
		if got := Check(sized(t, 3, 2), f); got != x.want {
			t.Errorf("Check of a frame of %+v: %v, want %v", x.c, got, x.want)
		}
		if x.want == api.OK {
			continue
		}
		for _, y := range faults()[2:] {
			g := f
			y.make(&g)
			if got := Check(sized(t, 3, 2), g); got != x.want {
				t.Errorf("%s: Check of a frame of %+v: %v, want %v", y.what, x.c, got, x.want)
			}
		}
	}
}

// At each place, whatever the Kind: Check doesn't ask which places a call comes to.
func TestCheckTakesEachPlaceOfEachKind(t *testing.T) {
	for _, kind := range kinds() {
		for at := range 10 {
			f := New(rightCall(kind))
			f.At = at
			if got := Check(sized(t, 1, 1), f); got != api.OK {
				t.Errorf("Check of Kind %d at %d: %v, want OK", kind, at, got)
			}
			if got := Check(sized(t, 1, 1), End(f, api.OK)); got != api.ErrRange {
				t.Errorf("Check of Kind %d, done at %d: %v, want ErrRange", kind, at, got)
			}
		}
	}
}

// withinAll is what Check tells of Cur, Prev, Slot, reckoned by what there is: all that can stand there are gone through.
func withinAll(many, buckets int, f api.Frame) bool {
	var curs, prevs []int
	slots := []int{-1}
	for b := range buckets {
		curs = append(curs, -1-b)
	}
	curs, prevs = append(curs, 0), append(prevs, 0)
	for a := range many {
		curs, prevs, slots = append(curs, a+1), append(prevs, a+1), append(slots, a)
	}
	return slices.Contains(curs, f.Cur) && slices.Contains(prevs, f.Prev) && slices.Contains(slots, f.Slot)
}

func TestCheckOfAllPlacesInSmallMemory(t *testing.T) {
	for many := range 4 {
		for buckets := range 4 {
			for n := range 9 * 9 * 9 {
				f := New(rightCall(api.Look))
				f.Cur, f.Prev, f.Slot = n%9-4, n/9%9-4, n/81-4
				want := api.ErrWho
				if withinAll(many, buckets, f) {
					want = api.OK
				}
				if got := Check(wild(many, buckets), f); got != want {
					t.Fatalf("%d slots, %d chains: Check(%+v): %v, want %v", many, buckets, f, got, want)
				}
			}
		}
	}
}

func TestCheckInNoMemory(t *testing.T) {
	if got := Check(api.Mem{}, New(rightCall(api.Look))); got != api.OK {
		t.Errorf("no memory: Check of a Look that begins: %v, want OK", got)
	}
	for _, x := range []change{
		{"Cur", api.ErrWho, func(f *api.Frame) { f.Cur = 1 }},
		{"Cur", api.ErrWho, func(f *api.Frame) { f.Cur = -1 }},
		{"Prev", api.ErrWho, func(f *api.Frame) { f.Prev = 1 }},
		{"Slot", api.ErrWho, func(f *api.Frame) { f.Slot = 0 }},
	} {
		f := New(rightCall(api.Look))
		x.make(&f)
		if got := Check(api.Mem{}, f); got != x.e {
			t.Errorf("no memory: Check(%+v): %v, want %v", f, got, x.e)
		}
	}
}

// P4.2: End

func TestEndChangesDoneAndEAlone(t *testing.T) {
	odd := api.Frame{C: api.Call{Kind: -1}, At: math.MinInt, Cur: math.MaxInt, Prev: -1, Slot: math.MinInt, N: -1, Keys: make([]api.Key, 3*api.MaxCalls), Done: true, E: -1}
	for _, f := range []api.Frame{{}, full(), odd, New(rightCall(api.Add)), {Keys: []api.Key{}}} {
		for _, e := range []api.Errno{api.OK, api.ErrWho, api.ErrTwice, api.ErrFull, api.ErrLate, -1, math.MaxInt} {
			want := f
			want.Done, want.E = true, e
			if got := End(f, e); !reflect.DeepEqual(got, want) {
				t.Errorf("End(%+v, %v): %+v", f, e, got)
			}
		}
	}
}

func TestEndTwice(t *testing.T) {
	once := End(full(), api.ErrWho)
	if got := End(once, api.OK); !got.Done || got.E != api.OK {
		t.Errorf("End of what is ended: %+v", got)
	}
	if !once.Done || once.E != api.ErrWho {
		t.Errorf("End changes what it was handed: %+v", once)
	}
}

// spacious: Keys that have spare room behind them, and all of that room.
func spacious(many, spare int) ([]api.Key, []api.Key) {
	room := make([]api.Key, many+spare)
	for i := range room {
		room[i] = api.Key{A: i + 1, B: -i}
	}
	return room[:many], room
}

func TestEndSharesNoKeys(t *testing.T) {
	for _, many := range []int{0, 1, 5, api.MaxCalls} {
		for _, spare := range []int{0, 1, 7} {
			f := full()
			keys, room := spacious(many, spare)
			f.Keys = keys
			before := slices.Clone(room)
			got := End(f, api.OK)
			if !slices.Equal(got.Keys, before[:many]) {
				t.Fatalf("%d keys, %d spare: End: %v", many, spare, got.Keys)
			}
			for i := range got.Keys {
				got.Keys[i] = api.Key{A: -9, B: -9}
			}
			got.Keys = append(got.Keys, api.Key{A: -9, B: -9})
			if !slices.Equal(room, before) {
				t.Errorf("%d keys, %d spare: what End answers is what was handed in: %v", many, spare, room)
			}
			if many == 0 && spare > 0 && &got.Keys[:1][0] == &room[0] {
				t.Errorf("%d spare: End answers room that was handed in", spare)
			}
		}
	}
}

// P4.2: Bucket

func TestBucket(t *testing.T) {
	for _, x := range []struct {
		buckets int
		c       api.Call
		want    int
	}{
		{2, api.Call{Kind: api.Look, K: api.Key{A: 1, B: 2}}, 1},
		{4, api.Call{Kind: api.Add, K: api.Key{A: 1, B: 2}}, 3},
		{3, api.Call{Kind: api.Drop, K: api.Key{A: 2, B: 1}}, 1},
		{4, api.Call{Kind: api.Drop, K: api.Key{A: 15, B: 15}}, 3},
		{1, api.Call{Kind: api.Look, K: api.Key{A: 15, B: 14}}, 0},
		{2, api.Call{Kind: api.Leave, K: api.Key{A: 1, B: 2}, Slot: 9}, 1},
		{2, api.Call{K: api.Key{A: 1, B: 2}}, 1},
		{2, api.Call{Kind: 7, K: api.Key{A: 1, B: 2}}, 1},
		{2, api.Call{Kind: api.Sweep, K: api.Key{A: 1, B: 2}}, 0},
		{2, api.Call{Kind: api.List, K: api.Key{}, Bucket: 1}, 1},
	} {
		if got := Bucket(sized(t, 1, x.buckets), x.c); got != x.want {
			t.Errorf("%d chains: Bucket(%+v): %d, want %d", x.buckets, x.c, got, x.want)
		}
	}
}

func TestBucketOfAllKeys(t *testing.T) {
	for _, kind := range append(wrongKinds(), api.Look, api.Add, api.Drop, api.Leave) {
		for buckets := 1; buckets <= api.MaxBuckets; buckets++ {
			for n := range 16 * 16 {
				k := api.Key{A: n % 16, B: n / 16}
				want, _ := key.Bucket(k, buckets)
				if got := Bucket(wild(2, buckets), api.Call{Kind: kind, K: k, Bucket: 77}); got != want {
					t.Fatalf("Kind %d, %d chains: Bucket of %v: %d, want %d", kind, buckets, k, got, want)
				}
			}
		}
	}
}

func TestBucketOfAnErrorIsZero(t *testing.T) {
	for _, kind := range append(wrongKinds(), api.Look, api.Add, api.Drop, api.Leave) {
		for _, out := range append(farOut(), -1, api.MaxEnd+1) {
			for _, k := range []api.Key{{A: out, B: 1}, {A: 1, B: out}, {A: out, B: out}} {
				if got := Bucket(sized(t, 3, 4), api.Call{Kind: kind, K: k, Bucket: 3}); got != 0 {
					t.Errorf("Kind %d: Bucket of %v: %d, want 0", kind, k, got)
				}
			}
		}
		for _, m := range []api.Mem{{}, wild(3, 0), wild(3, 5), wild(3, 90)} {
			if got := Bucket(m, api.Call{Kind: kind, K: api.Key{A: 1, B: 2}, Bucket: 3}); got != 0 {
				t.Errorf("Kind %d, %d chains: Bucket: %d, want 0", kind, len(m.Heads), got)
			}
		}
	}
}

// Of a Sweep and a List it is Bucket as it stands, whether there is such a chain or not.
func TestBucketOfSweepAndList(t *testing.T) {
	for _, kind := range []int{api.Sweep, api.List} {
		for _, b := range append(farOut(), -1, 0, 1, 2, 3, 4) {
			for _, m := range []api.Mem{{}, sized(t, 1, 2), wild(0, 9)} {
				for _, k := range []api.Key{{A: 1, B: 2}, {A: -1, B: math.MaxInt}} {
					if got := Bucket(m, api.Call{Kind: kind, K: k, Bucket: b}); got != b {
						t.Errorf("Kind %d: Bucket: %d, want %d", kind, got, b)
					}
				}
			}
		}
	}
}

// P1 and P2 of DOC.md

// roomy: memory of which each list has spare room, and all that room, list by list.
func roomy() (api.Mem, func() []any) {
	slots := []api.Slot{{Refs: 1, Next: -1}, {Refs: 2, Next: 1}, {Refs: 3}, {Refs: 9, Next: 9}}
	heads, free, locks := []int{1, -2, 9}, []int{2, 9}, []int{-1, 3, 9}
	m := api.Mem{Slots: slots[:3], Heads: heads[:2], Free: free[:1], Locks: locks[:2], Now: 4}
	return m, func() []any {
		return []any{slices.Clone(slots), slices.Clone(heads), slices.Clone(free), slices.Clone(locks)}
	}
}

func TestWhatIsHandedInIsOnlyRead(t *testing.T) {
	m, rooms := roomy()
	before, n := rooms(), m
	for _, kind := range append(wrongKinds(), kinds()...) {
		keys, room := spacious(4, 3)
		was := slices.Clone(room)
		f := full()
		f.C.Kind, f.Keys = kind, keys
		CheckCall(m, f.C)
		Check(m, f)
		End(f, api.ErrFull)
		Bucket(m, f.C)
		if !slices.Equal(room, was) {
			t.Errorf("Kind %d: keys that were handed in are changed: %v", kind, room)
		}
		if f.Done || f.E != api.ErrLate || len(f.Keys) != 4 {
			t.Errorf("Kind %d: the frame that was handed in is changed: %+v", kind, f)
		}
	}
	if !reflect.DeepEqual(rooms(), before) || !reflect.DeepEqual(m, n) {
		t.Errorf("memory that was handed in is changed: %v, %v", m, rooms())
	}
}

func TestAnswersHangOnArgumentsAlone(t *testing.T) {
	m, _ := roomy()
	ask := func() []any {
		return []any{New(full().C), CheckCall(m, full().C), Check(m, full()), End(full(), api.ErrWho), Bucket(m, full().C)}
	}
	first := ask()
	first[3].(api.Frame).Keys[0] = api.Key{A: -5}
	End(api.Frame{Keys: make([]api.Key, 9)}, api.ErrFull)
	second := ask()
	first[3].(api.Frame).Keys[0] = full().Keys[0]
	if !reflect.DeepEqual(first, second) {
		t.Errorf("asked twice: %v, then %v", first, second)
	}
}
