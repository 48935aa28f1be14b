package story

import (
	"fmt"
	"math"
	"slices"
	"strings"
	"testing"

	"turnstile/api"
	"turnstile/world"
)

// Keys of two chains: flow, near and side are of chain 1, far is of chain 0.
var (
	flow = api.Key{A: 1, B: 2}
	near = api.Key{A: 0, B: 1}
	side = api.Key{A: 3, B: 0}
	far  = api.Key{A: 2, B: 0}
)

func lookFor(k api.Key) api.Call      { return api.Call{Kind: api.Look, K: k} }
func addOf(k api.Key, n int) api.Call { return api.Call{Kind: api.Add, K: k, Time: n} }
func dropOf(k api.Key) api.Call       { return api.Call{Kind: api.Drop, K: k} }
func sweepOf(b int) api.Call          { return api.Call{Kind: api.Sweep, Bucket: b} }
func listOf(b int) api.Call           { return api.Call{Kind: api.List, Bucket: b} }
func leaveOf(a int) api.Call          { return api.Call{Kind: api.Leave, Slot: a} }

func begins(task int, c api.Call) api.Pick { return api.Pick{Task: task, C: c} }
func goesOn(task int) api.Pick             { return api.Pick{Task: task, Step: true} }
func ticks() api.Pick                      { return api.Pick{Tick: true} }

// refused: a pick that has an error in any world.
func refused() api.Pick { return goesOn(api.MaxTasks) }

// script: picks one after the other, a number n behind a pick meaning that it comes n times.
func script(l ...any) []api.Pick {
	var out []api.Pick
	for _, x := range l {
		switch x := x.(type) {
		case api.Pick:
			out = append(out, x)
		case int:
			last := out[len(out)-1]
			for range x - 1 {
				out = append(out, last)
			}
		}
	}
	return out
}

// done: a past call, as far as a witness is asked by it.
func done(c api.Call, e api.Errno, slot int) api.Past { return api.Past{C: c, E: e, Slot: slot} }

// during: p, from a pick to a pick.
func during(p api.Past, from, to int) api.Past {
	p.From, p.To = from, to
	return p
}

func newWorld(t *testing.T, many, buckets, tasks int) api.World {
	t.Helper()
	w, e := world.New(many, buckets, tasks)
	if e != api.OK {
		t.Fatalf("New(%d, %d, %d): error %d", many, buckets, tasks, e)
	}
	return w
}

// answer of a Witness.
type answer struct {
	i int
	e api.Errno
}

func asks(w api.World, l []api.Pick, p api.Past) answer {
	i, e := Witness(w, l, p)
	return answer{i, e}
}

func at(i int) answer        { return answer{i, api.OK} }
func not(e api.Errno) answer { return answer{0, e} }

// farOut: numbers that no list has a place for.
func farOut() []int { return []int{math.MinInt, math.MinInt + 1, math.MaxInt - 1, math.MaxInt} }

// otherErrnos: neither OK nor ErrTwice.
func otherErrnos() []api.Errno {
	return []api.Errno{-1, api.ErrText, api.ErrMany, api.ErrRange, api.ErrForm, api.ErrWho, api.ErrFull, api.ErrLate, 99}
}

// span: the picks from one to another.
func span(from, to int) []int {
	var l []int
	for i := from; i <= to; i++ {
		l = append(l, i)
	}
	return l
}

// firstIn: the first one of l, which goes up, of those from a pick to a pick.
func firstIn(l []int, from, to int) answer {
	for _, i := range l {
		if from <= i && i <= to {
			return at(i)
		}
	}
	return not(api.ErrWho)
}

func tells(x any) string { return fmt.Sprintf("%+v", x) }

func same(t *testing.T, what string, got, want any) {
	t.Helper()
	if tells(got) != tells(want) {
		t.Errorf("%s: %+v, want %+v", what, got, want)
	}
}

// P10.1: what accounts for a call, pick by pick

// inSlot: to which slot flow is mapped at a moment of that letter. (-: it isn't mapped; small: it lasts; great: it is over.)
func inSlot(moment byte) int { return strings.IndexByte("ab", moment|32) }

// lastsUntil: Now being 5.
func lastsUntil(moment byte) int {
	if moment == 'a' || moment == 'b' {
		return 6
	}
	return 5
}

// between: a world and a pick that leads from a moment to a moment; false: no pick does. (Task 0 is ahead of the step at which the memory is changed. Slots 0 and 1 are flow's, mapped or not; slot 2 is in no chain.)
func between(ahead, behind byte) (api.World, api.Pick, bool) {
	w := api.World{M: api.Mem{
		Slots: []api.Slot{{Refs: 1, K: flow, Until: 5, In: true, Next: -2}, {Refs: 1, K: flow, Until: 5, In: true, Next: -2}, {Refs: 1, K: near, Until: 5, In: true, Next: -2}},
		Heads: []int{-1, -2}, Locks: []int{-1, -1}, Now: 5,
	}, Tasks: make([]api.Task, 2)}
	from, to := inSlot(ahead), inSlot(behind)
	if to >= 0 {
		w.M.Slots[to].Until = lastsUntil(behind)
	}
	if from >= 0 {
		w.M.Slots[from].Until = lastsUntil(ahead)
		w.M.Heads[1] = from + 1
	}
	t := &w.Tasks[0]
	t.Busy, t.F = true, api.Frame{C: listOf(0), Slot: -1}
	switch {
	case ahead == behind:
		return w, goesOn(1), true
	case from == to:
		return w, ticks(), lastsUntil(ahead) > lastsUntil(behind)
	case from < 0:
		t.F = api.Frame{C: addOf(flow, 1), At: 5, Cur: -2, Slot: to}
	case to < 0:
		t.F = api.Frame{C: dropOf(flow), At: 4, Cur: from + 1, Slot: -1}
	default:
		w.M.Slots[2].Next = to + 1
		t.F = api.Frame{C: dropOf(near), At: 4, Cur: 3, Slot: -1}
	}
	return w, goesOn(0), true
}

// allMoments: each moment ahead, with each one behind to which a pick leads.
const allMoments = "-- -a -A -b -B a- aa aA ab aB A- AA Ab AB b- ba bA bb bB B- Ba BA BB"

// counts: a past call, and the moments on both sides of the picks that account for it.
type counts struct {
	p     api.Past
	pairs string
}

func allCounts() []counts {
	const (
		missed   = "-- -a -A -b -B a- aA aB A- AA Ab AB b- bA bB B- Ba BA BB"
		there    = "-a -A -b -B a- aa aA ab aB A- AA Ab AB b- ba bA bb bB B- Ba BA BB"
		unmapped = "-- -a -A -b -B a- A- b- B-"
		changed  = "a- ab aB A- Ab AB b- ba bA B- Ba BA"
	)
	l := []counts{
		{done(lookFor(flow), api.OK, 0), "-a a- aa aA ab aB ba Ba"},
		{done(lookFor(flow), api.OK, 1), "-b ab Ab b- ba bA bb bB"},
		{done(lookFor(flow), api.OK, 2), ""},
		{done(lookFor(flow), api.OK, -1), ""},
		{done(lookFor(flow), api.ErrTwice, 0), missed},
		{done(addOf(flow, 1), api.OK, 0), "-a -A"},
		{done(addOf(flow, 1), api.OK, 1), "-b -B"},
		{done(addOf(flow, 1), api.OK, 2), ""},
		{done(addOf(flow, 1), api.OK, -1), ""},
		{done(dropOf(flow), api.ErrTwice, 0), unmapped},
		// No other key is mapped: neither one of the chain, nor the same ends the other way round, nor what is no key.
		{done(lookFor(near), api.OK, 0), ""},
		{done(lookFor(api.Key{A: 9, B: 2}), api.OK, 0), ""},
		{done(lookFor(api.Key{A: 2, B: 1}), api.ErrWho, 0), allMoments},
		{done(addOf(api.Key{A: 1, B: 3}, 1), api.OK, 0), ""},
		{done(addOf(near, 1), api.ErrTwice, 0), ""},
		{done(dropOf(near), api.OK, 0), ""},
		{done(dropOf(api.Key{A: -1, B: 99}), api.ErrWho, -1), allMoments},
	}
	for _, e := range otherErrnos() {
		l = append(l, counts{done(lookFor(flow), e, -1), missed}, counts{done(addOf(flow, 1), e, -1), allMoments}, counts{done(dropOf(flow), e, -1), unmapped})
	}
	for _, slot := range []int{-1, 0, 1, 2} {
		l = append(l, counts{done(addOf(flow, 1), api.ErrTwice, slot), there}, counts{done(dropOf(flow), api.OK, slot), changed})
	}
	for _, kind := range append(farOut(), -1, 0, api.Sweep, api.List, api.Leave, 7) {
		for _, e := range append(otherErrnos(), api.OK, api.ErrTwice) {
			l = append(l, counts{done(api.Call{Kind: kind, K: flow}, e, 0), allMoments})
		}
	}
	return l
}

func TestWhatAccounts(t *testing.T) {
	for _, ahead := range []byte("-aAbB") {
		for _, behind := range []byte("-aAbB") {
			pair := string([]byte{ahead, behind})
			w, x, is := between(ahead, behind)
			if is != strings.Contains(allMoments, pair) {
				t.Errorf("%s: %v", pair, is)
			}
			if !is {
				continue
			}
			for _, c := range allCounts() {
				want := not(api.ErrWho)
				if slices.Contains(strings.Fields(c.pairs), pair) {
					want = at(1)
				}
				same(t, fmt.Sprintf("%s of %+v", pair, c.p), asks(w, []api.Pick{refused(), x}, during(c.p, 1, 1)), want)
			}
		}
	}
}

// TestUntilAndNow: a flow lasts as long as Until is above Now, which is asked on each side of a Tick.
func TestUntilAndNow(t *testing.T) {
	found, missed := done(lookFor(flow), api.OK, 0), done(lookFor(flow), api.ErrWho, -1)
	for _, x := range []struct {
		until, now    int
		found, missed answer
	}{
		{7, 5, at(0), not(api.ErrWho)}, // two above, then one
		{6, 5, at(0), at(0)},           // one above, then at it
		{5, 5, not(api.ErrWho), at(0)}, // at it, then one below
		{4, 5, not(api.ErrWho), at(0)}, // one below, then two
		{1, 0, at(0), at(0)},
		{0, 0, not(api.ErrWho), at(0)},
		{2 * api.MaxTime, api.MaxTime - 1, at(0), not(api.ErrWho)},
		{api.MaxTime, api.MaxTime - 1, at(0), at(0)},
		// At the end of time a Tick has an error, and changes nothing.
		{api.MaxTime + 1, api.MaxTime, at(0), not(api.ErrWho)},
		{api.MaxTime, api.MaxTime, not(api.ErrWho), at(0)},
	} {
		w, _, _ := between('a', 'a')
		w.M.Slots[0].Until, w.M.Now = x.until, x.now
		same(t, tells(x), []answer{asks(w, script(ticks()), found), asks(w, script(ticks()), missed)}, []answer{x.found, x.missed})
	}
}

// P10.1: which pick is answered

// tale: flow is mapped to slot 0 by pick 5, over from pick 10 on, dropped by pick 17, mapped to slot 1 by pick 23.
func tale() []api.Pick {
	return script(
		begins(0, addOf(flow, 3)), goesOn(0), 6, // 0 to 6: slot 0, until 3
		ticks(),    // 7
		goesOn(1),  // 8: it does nothing
		ticks(), 2, // 9, 10
		begins(0, addOf(flow, 3)), goesOn(0), // 11, 12: slot 1, until 6
		begins(1, dropOf(flow)), goesOn(1), 6, // 13 to 19
		goesOn(0), 5, // 20 to 24
		ticks(), // 25
	)
}

// telling: a past call, and the picks of the tale that account for it.
type telling struct {
	what  string
	p     api.Past
	picks []int
}

func tellings() []telling {
	all, missed, unmapped := span(0, 25), append(span(0, 5), span(10, 23)...), append(span(0, 5), span(17, 23)...)
	return []telling{
		{"a Look that finds", done(lookFor(flow), api.OK, 0), span(5, 10)},
		{"a Look that finds it anew", done(lookFor(flow), api.OK, 1), span(23, 25)},
		{"a Look that finds elsewhere", done(lookFor(flow), api.OK, 2), nil},
		{"a Look that finds none", done(lookFor(flow), api.ErrWho, -1), missed},
		{"a Look with another error", done(lookFor(flow), api.ErrLate, 0), missed},
		{"a Look for another key", done(lookFor(far), api.ErrWho, -1), all},
		{"a Look that finds the other", done(lookFor(far), api.OK, 0), nil},
		{"an Add", done(addOf(flow, 3), api.OK, 0), span(5, 5)},
		{"an Add anew", done(addOf(flow, 3), api.OK, 1), span(23, 23)},
		{"an Add elsewhere", done(addOf(flow, 3), api.OK, 2), nil},
		{"an Add of what is there", done(addOf(flow, 3), api.ErrTwice, -1), append(span(5, 17), span(23, 25)...)},
		{"an Add without a slot", done(addOf(flow, 3), api.ErrFull, -1), all},
		{"an Add out of turn", done(addOf(flow, 3), api.ErrLate, 1), all},
		{"an Add of another key", done(addOf(near, 3), api.OK, 0), nil},
		{"a Drop", done(dropOf(flow), api.OK, -1), span(17, 17)},
		{"a Drop of what isn't there", done(dropOf(flow), api.ErrWho, -1), unmapped},
		{"a Drop out of turn", done(dropOf(flow), api.ErrLate, 0), unmapped},
		{"a Drop of another key", done(dropOf(near), api.OK, -1), nil},
		{"a Sweep", done(sweepOf(1), api.OK, -1), all},
		{"a List", done(listOf(0), api.OK, -1), all},
		{"a Leave", done(leaveOf(0), api.OK, -1), all},
		{"a call of no kind", done(api.Call{}, api.ErrForm, 0), all},
		{"a Sweep with an error, a key", done(api.Call{Kind: api.Sweep, K: flow}, api.ErrWho, 7), all},
	}
}

// TestTheFirstFromUpTo: no pick ahead of From is a witness, and none behind To.
func TestTheFirstFromUpTo(t *testing.T) {
	w, l := newWorld(t, 2, 2, 2), tale()
	for _, x := range tellings() {
		for from := range l {
			for to := from; to < len(l); to++ {
				same(t, fmt.Sprintf("%s, from %d to %d", x.what, from, to), asks(w, l, during(x.p, from, to)), firstIn(x.picks, from, to))
			}
		}
	}
}

// TestWhatRunTellsOf: the tale's own calls, as Run tells of them.
func TestWhatRunTellsOf(t *testing.T) {
	w, l := newWorld(t, 2, 2, 2), tale()
	_, _, past, e := world.Run(w, l)
	if e != api.OK || len(past) != 3 {
		t.Fatalf("%d, %+v", e, past)
	}
	for i, want := range []int{5, 17, 23} {
		same(t, tells(past[i]), asks(w, l, past[i]), at(want))
	}
}

// TestWhoIsLedAstray is the document's: a slot is cut out, freed, and linked into another chain while somebody stands there.
func TestWhoIsLedAstray(t *testing.T) {
	w, l := newWorld(t, 1, 2, 2), script(
		begins(0, addOf(flow, 1)), goesOn(0), 6, // 0 to 6
		begins(1, lookFor(side)), goesOn(1), 2, // 7 to 9: it stands at flow's slot
		begins(0, dropOf(flow)), goesOn(0), 6, // 10 to 16
		begins(0, addOf(far, 1)), goesOn(0), 6, // 17 to 23
		goesOn(1), 4, // 24 to 27: at the other chain's end, and anew
	)
	_, _, past, _ := world.Run(w, l)
	var got []answer
	for _, p := range past {
		got = append(got, asks(w, l, p))
	}
	same(t, "add, drop, add, look", got, []answer{at(5), at(14), at(22), at(7)})
}

// TestWhatIsFoundAndGone: the Look holds the slot, which is cut out ahead of its last step.
func TestWhatIsFoundAndGone(t *testing.T) {
	w, l := newWorld(t, 1, 2, 2), script(
		begins(0, addOf(flow, 1)), goesOn(0), 6, // 0 to 6
		begins(0, dropOf(flow)), goesOn(0), 3, // 7 to 10: it will cut
		begins(1, lookFor(flow)), goesOn(1), 3, // 11 to 14: it holds
		goesOn(0), 3, // 15 to 17: flow isn't mapped any more
		goesOn(1), // 18
	)
	_, _, past, _ := world.Run(w, l)
	look := past[2]
	same(t, "look", look, api.Past{Task: 1, C: lookFor(flow), From: 11, To: 18, E: api.OK, Slot: 0})
	same(t, "while it looked", asks(w, l, look), at(11))
	same(t, "at the cut", asks(w, l, during(look, 15, 18)), at(15))
	same(t, "behind the cut", asks(w, l, during(look, 16, 18)), not(api.ErrWho))
}

// TestPicksWithErrors: a pick that has an error changes nothing, counts, and may be the witness.
func TestPicksWithErrors(t *testing.T) {
	w, l := newWorld(t, 2, 2, 2), script(
		goesOn(1), begins(7, lookFor(flow)), begins(0, api.Call{}), begins(0, leaveOf(0)), // 0 to 3
		begins(0, addOf(flow, 1)), begins(0, dropOf(flow)), goesOn(0), 3, // 4 to 8: 5 is refused
		begins(0, sweepOf(1)), goesOn(0), 2, // 9 to 11: 9 is refused; mapped by 11
		refused(), 2, // 12, 13
	)
	_, said, _, _ := world.Run(w, l)
	same(t, "said", said, []api.Errno{
		api.ErrLate, api.ErrWho, api.ErrForm, api.ErrTwice, api.OK, api.ErrLate, api.OK, api.OK, api.OK, api.ErrLate, api.OK, api.OK, api.ErrWho, api.ErrWho,
	})
	for _, from := range []int{0, 1, 2, 3, 5, 9} {
		same(t, "none is there", asks(w, l, during(done(lookFor(flow), api.ErrWho, -1), from, 13)), at(from))
	}
	same(t, "added", asks(w, l, during(done(addOf(flow, 1), api.OK, 0), 0, 13)), at(11))
	for _, from := range []int{12, 13} {
		same(t, "found", asks(w, l, during(done(lookFor(flow), api.OK, 0), from, 13)), at(from))
		same(t, "twice", asks(w, l, during(done(addOf(flow, 1), api.ErrTwice, -1), from, 13)), at(from))
		same(t, "any", asks(w, l, during(done(listOf(0), api.OK, -1), from, 13)), at(from))
		same(t, "none is there", asks(w, l, during(done(dropOf(flow), api.ErrWho, -1), from, 13)), not(api.ErrWho))
	}
}

// TestWhatWasSaidIsNotAsked: the past call need not be one that Run tells of, and an error of it need not be one that a pick had.
func TestWhatWasSaidIsNotAsked(t *testing.T) {
	w, l := newWorld(t, 1, 2, 1), script(ticks(), 3)
	for _, e := range otherErrnos() {
		same(t, "look", asks(w, l, during(done(lookFor(flow), e, 5), 1, 2)), at(1))
		same(t, "add", asks(w, l, during(done(addOf(flow, 1), e, 5), 1, 2)), at(1))
		same(t, "drop", asks(w, l, during(done(dropOf(flow), e, 5), 1, 2)), at(1))
	}
}

// TestWhatElseIsNotAsked: of a past call its kind, its key, From, To, E and Slot are asked, nothing else.
func TestWhatElseIsNotAsked(t *testing.T) {
	w, l := newWorld(t, 2, 2, 2), tale()
	for _, x := range tellings() {
		want := asks(w, l, during(x.p, 3, 20))
		for _, n := range append(farOut(), -1, 0, 1, 9) {
			p := during(x.p, 3, 20)
			p.Task, p.N, p.Keys = n, n, []api.Key{{A: n, B: n}, flow}
			p.C.Time, p.C.Bucket, p.C.Slot = n, n, n
			same(t, x.what, asks(w, l, p), want)
		}
	}
}

// TestAWorldInTheMidst: what is mapped ahead of the first pick is so at that pick.
func TestAWorldInTheMidst(t *testing.T) {
	w, l := newWorld(t, 2, 2, 2), tale()
	for n := range l {
		v, _, _, e := world.Run(w, l[:n])
		if e != api.OK {
			t.Fatalf("error %d", e)
		}
		for _, x := range tellings() {
			want := firstIn(x.picks, n, len(l)-1)
			want.i = max(want.i-n, 0)
			same(t, fmt.Sprintf("%s, behind %d picks", x.what, n), asks(v, l[n:], during(x.p, 0, len(l)-1-n)), want)
		}
	}
}

func TestAsManyPicksAsCanBe(t *testing.T) {
	w, last := newWorld(t, 1, 2, 1), api.MaxScript-1
	l := script(ticks(), api.MaxScript-6, begins(0, addOf(flow, 1)), goesOn(0), 5)
	if len(l) != api.MaxScript {
		t.Fatalf("%d picks", len(l))
	}
	same(t, "the last pick of all", asks(w, l, during(done(addOf(flow, 1), api.OK, 0), 0, last)), at(last))
	same(t, "found there", asks(w, l, during(done(lookFor(flow), api.OK, 0), 0, last)), at(last))
	same(t, "up to the one ahead of it", asks(w, l, during(done(lookFor(flow), api.OK, 0), 0, last-1)), not(api.ErrWho))
	same(t, "the first pick of all", asks(w, l, during(done(dropOf(flow), api.ErrWho, -1), 0, last)), at(0))
}
