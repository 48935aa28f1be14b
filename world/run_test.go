package world

import (
	"slices"
	"testing"

	"turnstile/api"
)

// oks: so many picks without an error.
func oks(n int) []api.Errno { return make([]api.Errno, n) }

// ran: all that a Run answered, but the world.
type ran struct {
	said []api.Errno
	past []api.Past
}

// runs: a script that must be taken.
func runs(t *testing.T, w api.World, l []api.Pick) (api.World, ran) {
	t.Helper()
	v, said, past, e := Run(w, l)
	if e != api.OK {
		t.Fatalf("error %d in %+v", e, w)
	}
	return v, ran{said, past}
}

// P9.3: Run

func TestRunOfSeveralTasks(t *testing.T) {
	w := newWorld(t, 2, 2, 3)
	v, got := runs(t, w, script(
		begins(0, addOf(flow, 4)), // 0
		begins(1, lookFor(flow)),  // 1
		goesOn(2),                 // 2: it does nothing
		goesOn(0), 5,              // 3 to 7: flow is mapped behind 7
		begins(0, lookFor(flow)), // 8: it is busy
		goesOn(1), 4,             // 9 to 12: it finds
		begins(2, dropOf(flow)), // 13
		goesOn(2),               // 14: the lock is the Add's yet
		goesOn(0),               // 15: it is done
		goesOn(0),               // 16: it does nothing
		ticks(),                 // 17
		goesOn(2), 6,            // 18 to 23: it is dropped
		begins(1, leaveOf(1)), // 24: it isn't held
		begins(3, leaveOf(0)), // 25: there is no such task
		begins(1, leaveOf(0)), // 26
		goesOn(1),             // 27: the slot is free again
		begins(0, api.Call{}), // 28
	))
	said := oks(29)
	said[2], said[8], said[16] = api.ErrLate, api.ErrLate, api.ErrLate
	said[24], said[25], said[28] = api.ErrTwice, api.ErrWho, api.ErrForm
	same(t, "run", got, ran{said, []api.Past{
		{Task: 1, C: lookFor(flow), From: 1, To: 12, E: api.OK, Slot: 0},
		{Task: 0, C: addOf(flow, 4), From: 0, To: 15, E: api.OK, Slot: 0},
		{Task: 2, C: dropOf(flow), From: 13, To: 23, E: api.OK, Slot: -1},
		{Task: 1, C: leaveOf(0), From: 26, To: 27, E: api.OK, Slot: -1},
	}})
	want := newWorld(t, 2, 2, 3)
	want.M.Slots[0] = api.Slot{K: flow, Until: 4, In: true, Next: -2}
	want.M.Now = 1
	want.Tasks[0].F = api.Frame{C: addOf(flow, 4), At: 7, Cur: -2, Slot: 0, Done: true}
	want.Tasks[1].F = api.Frame{C: leaveOf(0), Slot: -1, Done: true}
	want.Tasks[2].F = api.Frame{C: dropOf(flow), At: 6, Cur: 1, Slot: -1, Done: true}
	same(t, "world", v, want)
}

// TestRunOfWhoIsLedAstray is the document's: a slot is cut out, freed, and linked into another chain while somebody stands there.
func TestRunOfWhoIsLedAstray(t *testing.T) {
	w := newWorld(t, 1, 2, 2)
	v, got := runs(t, w, script(
		begins(0, addOf(flow, 1)), goesOn(0), 6, // 0 to 6
		begins(1, lookFor(side)), goesOn(1), 2, // 7 to 9: it stands at flow's slot
		begins(0, dropOf(flow)), goesOn(0), 6, // 10 to 16
		begins(0, addOf(far, 1)), goesOn(0), 6, // 17 to 23
		goesOn(1), 2, // 24, 25: at the other chain's end
		goesOn(1), 2, // 26, 27: anew
	))
	same(t, "run", got, ran{oks(28), []api.Past{
		{Task: 0, C: addOf(flow, 1), From: 0, To: 6, Slot: 0},
		{Task: 0, C: dropOf(flow), From: 10, To: 16, Slot: -1},
		{Task: 0, C: addOf(far, 1), From: 17, To: 23, Slot: 0},
		{Task: 1, C: lookFor(side), From: 7, To: 27, E: api.ErrWho, Slot: -1},
	}})
	same(t, "it stands at its own chain's end", v.Tasks[1].F.Cur, -2)
}

func TestRunTellsOfEachKind(t *testing.T) {
	w := newWorld(t, 3, 1, 1)
	_, got := runs(t, w, script(
		begins(0, addOf(flow, 1)), goesOn(0), 6, // 0 to 6
		begins(0, addOf(near, 2)), goesOn(0), 8, // 7 to 15
		begins(0, listOf(0)), goesOn(0), 8, // 16 to 24
		begins(0, addOf(flow, 3)), goesOn(0), 8, // 25 to 33
		begins(0, lookFor(near)), goesOn(0), 4, // 34 to 38
		ticks(),                             // 39
		begins(0, sweepOf(0)), goesOn(0), 9, // 40 to 49
		begins(0, dropOf(flow)), goesOn(0), 7, // 50 to 57
		begins(0, leaveOf(1)), goesOn(0), // 58, 59
	))
	same(t, "run", got, ran{oks(60), []api.Past{
		{C: addOf(flow, 1), From: 0, To: 6, Slot: 0},
		{C: addOf(near, 2), From: 7, To: 15, Slot: 1},
		{C: listOf(0), From: 16, To: 24, Slot: -1, Keys: []api.Key{near, flow}},
		{C: addOf(flow, 3), From: 25, To: 33, E: api.ErrTwice, Slot: -1},
		{C: lookFor(near), From: 34, To: 38, Slot: 1},
		{C: sweepOf(0), From: 40, To: 49, Slot: -1, N: 1},
		{C: dropOf(flow), From: 50, To: 57, E: api.ErrWho, Slot: -1},
		{C: leaveOf(1), From: 58, To: 59, Slot: -1},
	}})
}

func TestRunOfWhatBeganAheadOfIt(t *testing.T) {
	v, got := runs(t, sample(), script(
		ticks(),          // 0
		goesOn(adder), 7, // 1 to 7: along near's and flow's slots, then linked
		goesOn(looker),           // 8
		begins(adder, listOf(0)), // 9
		goesOn(adder), 6,         // 10 to 15
		begins(looker, leaveOf(1)), // 16
		goesOn(looker),             // 17
	))
	same(t, "run", got, ran{oks(18), []api.Past{
		{Task: adder, C: addOf(side, 2), From: 0, To: 7, Slot: 4, N: 5, Keys: []api.Key{side}},
		{Task: looker, C: lookFor(near), From: 0, To: 8, Slot: 1, Keys: []api.Key{far, near}},
		{Task: adder, C: listOf(0), From: 9, To: 15, Slot: -1, Keys: []api.Key{far}},
		{Task: looker, C: leaveOf(1), From: 16, To: 17, Slot: -1},
	}})
	l, e := Flows(v)
	same(t, "flows", []any{l[1], e}, []any{api.Flow{K: side, Slot: 4, Until: 7}, api.OK})
}

// TestRunOfACallThatIsNotDone: nothing is told of it, and the next Run tells of it from 0 on.
func TestRunOfACallThatIsNotDone(t *testing.T) {
	w, got := runs(t, newWorld(t, 1, 1, 1), script(ticks(), begins(0, lookFor(far)), goesOn(0)))
	same(t, "not yet", got, ran{oks(3), nil})
	_, got = runs(t, w, script(ticks(), 3, goesOn(0), ticks()))
	same(t, "then", got, ran{oks(5), []api.Past{{C: lookFor(far), From: 0, To: 3, E: api.ErrWho, Slot: -1}}})
}

func TestRunWithoutPicks(t *testing.T) {
	for _, l := range [][]api.Pick{nil, {}} {
		v, got := runs(t, sample(), l)
		same(t, "nothing is done", []any{v, got}, []any{sample(), ran{}})
	}
}

func TestRunOfErrorsAlone(t *testing.T) {
	v, got := runs(t, sample(), script(goesOn(idle), begins(adder, listOf(0)), begins(idle, leaveOf(3)), goesOn(4), begins(-1, listOf(0)), begins(fresh, api.Call{})))
	same(t, "nothing is done", []any{v, got}, []any{sample(), ran{said: []api.Errno{api.ErrLate, api.ErrLate, api.ErrTwice, api.ErrWho, api.ErrWho, api.ErrForm}}})
}

// TestRunOfErrorsThatDontBegin: a pick that is refused is no begin of a call.
func TestRunOfErrorsThatDontBegin(t *testing.T) {
	_, got := runs(t, newWorld(t, 1, 1, 1), script(ticks(), begins(0, lookFor(far)), begins(0, lookFor(far)), goesOn(0), begins(0, addOf(far, 1)), goesOn(0)))
	same(t, "run", got, ran{
		[]api.Errno{0, 0, api.ErrLate, 0, api.ErrLate, 0},
		[]api.Past{{C: lookFor(far), From: 1, To: 5, E: api.ErrWho, Slot: -1}},
	})
}

// TestRunOfTicksThatNameTasks: a Tick is no step, and no begin, whatever else it says.
func TestRunOfTicksThatNameTasks(t *testing.T) {
	_, got := runs(t, newWorld(t, 1, 1, 2), script(
		api.Pick{Tick: true, Step: true}, api.Pick{Tick: true, Task: 7}, api.Pick{Tick: true, Task: -1, Step: true},
		begins(1, lookFor(far)), api.Pick{Tick: true, Task: 1, C: lookFor(far)}, goesOn(1), goesOn(1), api.Pick{Tick: true, Task: 1, Step: true},
	))
	same(t, "run", got, ran{oks(8), []api.Past{{Task: 1, C: lookFor(far), From: 3, To: 6, E: api.ErrWho, Slot: -1}}})
}

func TestRunAtTheEndOfTime(t *testing.T) {
	w := newWorld(t, 1, 1, 1)
	w.M.Now = api.MaxTime - 1
	v, got := runs(t, w, script(ticks(), 3))
	same(t, "run", []any{got, v.M.Now}, []any{ran{said: []api.Errno{api.OK, api.ErrFull, api.ErrFull}}, api.MaxTime})
}

func TestRunOfAsManyPicksAsCanBe(t *testing.T) {
	v, got := runs(t, newWorld(t, 1, 1, 1), script(ticks(), api.MaxScript))
	same(t, "ticks", []any{got, v.M.Now}, []any{ran{said: oks(api.MaxScript)}, api.MaxScript})

	_, got = runs(t, newWorld(t, 1, 1, 1), slices.Repeat(script(begins(0, lookFor(far)), goesOn(0), 2), api.MaxScript/3))
	want := ran{said: oks(api.MaxScript)}
	for i := range api.MaxScript / 3 {
		want.past = append(want.past, api.Past{C: lookFor(far), From: 3 * i, To: 3*i + 2, E: api.ErrWho, Slot: -1})
	}
	same(t, "looks", got, want)
}

// nothing: is all else zero beside an error?
func nothing(t *testing.T, what string, w api.World, l []api.Pick, want api.Errno) {
	t.Helper()
	v, said, past, e := Run(w, l)
	same(t, what, []any{v, said == nil, past == nil, e}, []any{api.World{}, true, true, want})
}

func TestRunOfMorePicksThanCanBe(t *testing.T) {
	for _, n := range []int{api.MaxScript + 1, 3 * api.MaxScript} {
		nothing(t, "ticks", newWorld(t, 1, 1, 1), script(ticks(), n), api.ErrMany)
		nothing(t, "errors", sample(), script(goesOn(idle), n), api.ErrMany)
	}
}

func TestRunInAWorldThatIsWrong(t *testing.T) {
	for _, x := range allFaults() {
		if x.want == api.OK {
			continue
		}
		w := sample()
		x.given(&w)
		nothing(t, x.what, w, nil, x.want)
		nothing(t, x.what, w, script(ticks(), 2), x.want)
		nothing(t, x.what+", and too many picks", w, script(ticks(), api.MaxScript+1), x.want)
	}
}

// TestRunInAWorldThatGoesWrong: no such world comes of New; each pick is asked for its error all the same.
func TestRunInAWorldThatGoesWrong(t *testing.T) {
	w := sample()
	holdsMany(looker, api.MaxCalls)(&w)
	v, got := runs(t, w, script(ticks(), goesOn(looker), ticks(), goesOn(adder), begins(idle, listOf(0))))
	said := append(oks(2), api.ErrMany, api.ErrMany, api.ErrMany)
	same(t, "run", got, ran{said, []api.Past{{Task: looker, C: lookFor(near), To: 1, Slot: 1, Keys: []api.Key{far, near}}}})
	same(t, "world", []any{v.M.Now, len(v.Tasks[looker].Held), v.Tasks[adder]}, []any{6, api.MaxCalls + 1, sample().Tasks[adder]})

	w = sample()
	w.M.Slots[1].Next = 0
	w.Tasks[adder].F = api.Frame{C: dropOf(near), At: 4, Cur: 2, Slot: -1}
	v, got = runs(t, w, script(goesOn(adder), ticks(), goesOn(looker)))
	same(t, "a begin that is none", []any{got, v.M.Heads}, []any{ran{said: []api.Errno{api.OK, api.ErrWho, api.ErrWho}}, []int{3, 0}})
}

// oneByOne: Run, told a second time.
func oneByOne(w api.World, l []api.Pick) (api.World, ran) {
	var out ran
	for i, x := range l {
		v, e := Do(w, x)
		out.said = append(out.said, e)
		if e != api.OK {
			continue
		}
		if x.Step && !x.Tick && w.Tasks[x.Task].Busy && !v.Tasks[x.Task].Busy {
			f := v.Tasks[x.Task].F
			out.past = append(out.past, api.Past{Task: x.Task, C: f.C, From: beganAt(l[:i], out.said, x.Task), To: i, E: f.E, Slot: f.Slot, N: f.N, Keys: f.Keys})
		}
		w = v
	}
	return w, out
}

// beganAt: with which pick the call of a task began, looking back from the end.
func beganAt(l []api.Pick, said []api.Errno, task int) int {
	for i, x := range slices.Backward(l) {
		if said[i] == api.OK && x.Task == task && !x.Step && !x.Tick {
			return i
		}
	}
	return 0
}

func TestRunIsDoOneByOne(t *testing.T) {
	for seed := range 150 {
		d := dice(uint64(seed))
		w := newWorld(t, d.below(4), 1+d.below(3), 1+d.below(api.MaxTasks))
		for range 3 {
			var l []api.Pick
			for range d.below(api.MaxScript + 1) {
				// One task and one slot too far: some picks have an error.
				l = append(l, d.pick(len(w.Tasks)+d.below(2), len(w.M.Slots)+1, len(w.M.Heads)))
			}
			v, got := runs(t, w, l)
			u, want := oneByOne(w, l)
			same(t, "run", []any{v, got}, []any{u, want})
			w = v
		}
	}
}

// TestRunGoesOnWhereItEnded: two Runs are one, but that the second one counts from 0 anew.
func TestRunGoesOnWhereItEnded(t *testing.T) {
	d := dice(5)
	for range 100 {
		w := newWorld(t, 2, 2, 3)
		var l []api.Pick
		for range 120 {
			l = append(l, d.pick(3, 2, 2))
		}
		at := d.below(len(l) + 1)
		v, whole := runs(t, w, l)
		u, first := runs(t, w, l[:at])
		u, second := runs(t, u, l[at:])
		same(t, "world", u, v)
		same(t, "said", append(first.said, second.said...), whole.said)
		for i, p := range second.past {
			q := whole.past[len(first.past)+i]
			p.From, p.To = p.From+at, p.To+at
			if q.From < at {
				p.From = q.From
			}
			same(t, "past", p, q)
		}
		same(t, "past", len(first.past)+len(second.past), len(whole.past))
	}
}
