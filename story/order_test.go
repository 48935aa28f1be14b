package story

import (
	"slices"
	"testing"

	"turnstile/api"
	"turnstile/mem"
	"turnstile/world"
)

// P10.2: from New on each call that Run tells of has a witness

// ending: a kind of call, and an error with which it is done.
type ending struct {
	kind int
	e    api.Errno
}

// allEndings: how calls end, from New on.
func allEndings() []ending {
	return []ending{
		{api.Look, api.OK}, {api.Look, api.ErrWho}, {api.Add, api.OK}, {api.Add, api.ErrTwice}, {api.Add, api.ErrFull},
		{api.Drop, api.OK}, {api.Drop, api.ErrWho}, {api.Sweep, api.OK}, {api.List, api.OK}, {api.Leave, api.OK},
	}
}

// seen: what scripts had in them: how calls ended, how many Looks began anew, how many found what was not mapped any more when they were done, how many slots were taken that somebody stood at.
type seen struct {
	ended               map[ending]int
	anew, gone, stoodAt int
}

// hasWitness: one from its From to its To.
func hasWitness(t *testing.T, w api.World, l []api.Pick, p api.Past) {
	t.Helper()
	if i, e := Witness(w, l, p); e != api.OK || i < p.From || i > p.To {
		t.Fatalf("%+v has no witness: %d, %d, in %+v of\n%+v", p, i, e, l, w)
	}
}

// allHaveWitnesses runs a script, and asks for a witness of each call that it tells of.
func allHaveWitnesses(t *testing.T, w api.World, l []api.Pick, s *seen) {
	t.Helper()
	_, _, past, e := world.Run(w, l)
	if e != api.OK {
		t.Fatalf("error %d in %+v", e, w)
	}
	for _, p := range past {
		hasWitness(t, w, l, p)
		s.ended[ending{p.C.Kind, p.E}]++
	}
}

// watch goes through a script once more, and counts what makes it hard to tell when a call was done.
func (s *seen) watch(w api.World, l []api.Pick) {
	for _, x := range l {
		v, e := world.Do(w, x)
		if e != api.OK {
			continue
		}
		for a := range w.M.Slots {
			if w.M.Slots[a].Refs == 0 && v.M.Slots[a].Refs == 1 && someLookIsAt(v, a) {
				s.stoodAt++
			}
		}
		if x.Step && !x.Tick && v.Tasks[x.Task].F.C.Kind == api.Look {
			s.look(w.Tasks[x.Task].F, v.Tasks[x.Task].F, v)
		}
		w = v
	}
}

func someLookIsAt(w api.World, a int) bool {
	return slices.ContainsFunc(w.Tasks, func(t api.Task) bool { return t.Busy && t.F.C.Kind == api.Look && t.F.Cur == a+1 })
}

func (s *seen) look(ahead, behind api.Frame, w api.World) {
	if ahead.At > 0 && behind.At == 0 {
		s.anew++
	}
	flows, _ := world.Flows(w)
	found := behind.Done && behind.E == api.OK
	if found && !slices.ContainsFunc(flows, func(f api.Flow) bool { return f.Slot == behind.Slot && f.K == behind.C.K }) {
		s.gone++
	}
}

func TestManyScripts(t *testing.T) {
	s := seen{ended: map[ending]int{}}
	for seed := range 1500 {
		d := dice(uint64(seed))
		w := newWorld(t, []int{0, 1, 2, 2, 3, 3, 4}[d.below(7)], 1+d.below(2), 1+d.below(api.MaxTasks))
		l := d.lively(w, 1+d.below(api.MaxScript))
		if d.oneIn(10) {
			l = d.picks(w, api.MaxScript)
		}
		allHaveWitnesses(t, w, l, &s)
		s.watch(w, l)
	}
	for _, x := range allEndings() {
		if s.ended[x] < 50 {
			t.Errorf("hardly any call ended so: %+v, %d", x, s.ended[x])
		}
	}
	if len(s.ended) != len(allEndings()) || s.anew < 50 || s.gone < 20 || s.stoodAt < 50 {
		t.Errorf("scripts that are too plain: %+v", s)
	}
}

// TestCallsThatBeginInTheScript: so it is of any world behind New, but of a call that began ahead of the script.
func TestCallsThatBeginInTheScript(t *testing.T) {
	n := 0
	for seed := range 300 {
		d := dice(uint64(5000 + seed))
		w := newWorld(t, 1+d.below(3), 1+d.below(2), 1+d.below(api.MaxTasks))
		w, _, _, _ = world.Run(w, d.lively(w, d.below(api.MaxScript)))
		l := d.lively(w, 1+d.below(90))
		_, said, past, _ := world.Run(w, l)
		for _, p := range past {
			// What began ahead of the script is told of from 0 on, too.
			if x := l[p.From]; said[p.From] != api.OK || x.Tick || x.Step || x.Task != p.Task || x.C != p.C {
				continue
			}
			hasWitness(t, w, l, p)
			n++
		}
	}
	if n < 1000 {
		t.Errorf("hardly any call began in its script: %d", n)
	}
}

// TestACallThatBeganAheadOfTheScript: what it found may be gone ahead of the script's first pick, so that no pick of it is a witness.
func TestACallThatBeganAheadOfTheScript(t *testing.T) {
	w, ahead, l := newWorld(t, 1, 2, 2), script(
		begins(0, addOf(flow, 1)), goesOn(0), 6, // 0 to 6
		begins(1, lookFor(flow)), goesOn(1), 3, // 7 to 10: it holds
		begins(0, dropOf(flow)), goesOn(0), 6, // 11 to 17
	), script(goesOn(1))
	v, _, _, _ := world.Run(w, ahead)
	_, _, past, _ := world.Run(v, l)
	same(t, "past", past, []api.Past{{Task: 1, C: lookFor(flow), From: 0, To: 0, E: api.OK, Slot: 0}})
	same(t, "in the script", asks(v, l, past[0]), not(api.ErrWho))
	whole := append(ahead, l...)
	_, _, past, _ = world.Run(w, whole)
	same(t, "from New on", asks(w, whole, past[2]), at(7))
}

// Each order of the picks of two tasks

// duet: what is done first, from New on; then the calls of two tasks, one behind the other, if they have come to an end of what they began first.
type duet struct {
	what  string
	many  int
	first []api.Pick
	calls [2][]api.Call
}

// adds: task 0 adds a flow, in so many steps.
func adds(k api.Key, steps int) []api.Pick { return script(begins(0, addOf(k, 1)), goesOn(0), steps) }

// plainDuets: two tasks that begin behind what is done first.
func plainDuets() []duet {
	mapped := adds(flow, 6)
	over := append(adds(flow, 6), ticks())
	return []duet{
		{"a Look, a Drop", 1, mapped, [2][]api.Call{{lookFor(flow)}, {dropOf(flow)}}},
		{"a Look, an Add", 1, nil, [2][]api.Call{{lookFor(flow)}, {addOf(flow, 1)}}},
		{"a Look, an Add that is refused", 2, mapped, [2][]api.Call{{lookFor(flow)}, {addOf(flow, 1)}}},
		{"a Look, a Sweep of what is over", 1, over, [2][]api.Call{{lookFor(flow)}, {sweepOf(1)}}},
		{"two Adds", 2, nil, [2][]api.Call{{addOf(flow, 1)}, {addOf(flow, 2)}}},
		{"two Adds, one slot", 1, nil, [2][]api.Call{{addOf(flow, 1)}, {addOf(flow, 2)}}},
		{"two Drops", 1, mapped, [2][]api.Call{{dropOf(flow)}, {dropOf(flow)}}},
		{"an Add, a Drop", 2, mapped, [2][]api.Call{{addOf(flow, 1)}, {dropOf(flow)}}},
		{"a Sweep, a Drop", 1, over, [2][]api.Call{{sweepOf(1)}, {dropOf(flow)}}},
	}
}

// strayDuets: task 0 looks, and task 1 is about to cut out a slot, which it takes for another flow then.
func strayDuets() []duet {
	cuts := func(k api.Key) []api.Pick { return script(begins(1, dropOf(k)), goesOn(1), 3) }
	looks := func(k api.Key, steps int) []api.Pick { return script(begins(0, lookFor(k)), goesOn(0), steps) }
	return []duet{
		{"the same key anew", 1, slices.Concat(adds(flow, 6), cuts(flow)), [2][]api.Call{{lookFor(flow)}, {addOf(flow, 1)}}},
		{"at a slot of another key, which is taken for the Look's", 1, slices.Concat(adds(near, 6), cuts(near), looks(flow, 1)), [2][]api.Call{nil, {addOf(flow, 1)}}},
		{"at a slot of another key, which is taken for another chain", 1, slices.Concat(adds(near, 6), cuts(near), looks(flow, 1)), [2][]api.Call{nil, {addOf(far, 1)}}},
		{"the same, ahead of the Look's key", 2, slices.Concat(adds(flow, 6), adds(near, 8), cuts(near), looks(flow, 2)), [2][]api.Call{nil, {addOf(far, 1)}}},
		{"at a slot of its key, which is taken for another one", 1, slices.Concat(adds(flow, 6), cuts(flow), looks(flow, 2)), [2][]api.Call{nil, {addOf(near, 1)}}},
	}
}

// each calls at with each script in which both tasks come to an end of all that they do. A step that only waits is left out; not both of them wait.
func (x duet) each(t *testing.T, w api.World, l []api.Pick, at func(l []api.Pick)) {
	t.Helper()
	ended, waits := 0, 0
	for i, task := range w.Tasks {
		p, y := goesOn(i), x
		if !task.Busy && len(x.calls[i]) == 0 {
			ended++
			continue
		}
		if !task.Busy {
			p = begins(i, x.calls[i][0])
			y.calls[i] = x.calls[i][1:]
		}
		v, e := world.Do(w, p)
		if e != api.OK {
			t.Fatalf("%+v: error %d in %+v", p, e, w)
		}
		if mem.Same(v.M, w.M) && tells(v.Tasks) == tells(w.Tasks) {
			waits++
			continue
		}
		y.each(t, v, append(slices.Clip(l), p), at)
	}
	if ended == len(w.Tasks) {
		at(l)
	} else if ended+waits == len(w.Tasks) {
		t.Fatalf("nobody goes on: %+v", w)
	}
}

func TestEachOrderOfPicks(t *testing.T) {
	for _, x := range append(plainDuets(), strayDuets()...) {
		t.Run(x.what, func(t *testing.T) {
			t.Parallel()
			w, n, s := newWorld(t, x.many, 2, 2), 0, seen{ended: map[ending]int{}}
			v, _, _, _ := world.Run(w, x.first)
			x.each(t, v, x.first, func(l []api.Pick) {
				allHaveWitnesses(t, w, l, &s)
				n++
			})
			if n < 20 {
				t.Errorf("%d orders", n)
			}
		})
	}
}
