package story

import (
	"fmt"
	"slices"
	"testing"

	"turnstile/api"
	"turnstile/world"
)

// change of a world.
type change func(w *api.World)

// fault: a change, and what is wrong then.
type fault struct {
	what  string
	given change
	want  api.Errno
}

// steady: flow is mapped to slot 0, and lasts; slot 1 is flow's, too, slot 2 near's, both in nobody's chain; slot 3 is free.
func steady() api.World {
	w, _, _ := between('a', 'a')
	w.M.Slots = append(w.M.Slots, api.Slot{K: near, In: true, Next: -2})
	w.M.Free = []int{3}
	w.M.Slots[0].Until = 1000
	return w
}

func with(w api.World, l ...change) api.World {
	for _, c := range l {
		c(&w)
	}
	return w
}

// somePasts: for each of them, the first pick of a script in a steady world accounts.
func somePasts() []api.Past {
	return []api.Past{
		done(lookFor(flow), api.OK, 0), done(lookFor(near), api.ErrWho, -1), done(addOf(flow, 1), api.ErrTwice, -1), done(addOf(far, 1), api.ErrFull, -1),
		done(dropOf(near), api.ErrWho, -1), done(sweepOf(0), api.OK, -1), done(listOf(1), api.OK, -1), done(leaveOf(0), api.OK, -1),
	}
}

// noPasts: no pick of a script that changes no chain accounts for them.
func noPasts() []api.Past {
	return []api.Past{
		done(lookFor(flow), api.OK, 1), done(lookFor(flow), api.ErrWho, -1), done(addOf(flow, 1), api.OK, 0), done(addOf(near, 1), api.ErrTwice, -1),
		done(dropOf(flow), api.OK, -1), done(dropOf(flow), api.ErrWho, -1),
	}
}

// P10.1: ErrRange

func TestFromAndTo(t *testing.T) {
	w, l := steady(), script(ticks(), 3)
	type bounds struct{ from, to int }
	for _, x := range []bounds{{0, 0}, {0, 1}, {0, 2}, {1, 1}, {1, 2}, {2, 2}} {
		for _, p := range somePasts() {
			same(t, fmt.Sprintf("%+v of %+v", x, p), asks(w, l, during(p, x.from, x.to)), at(x.from))
		}
	}
	wrong := []bounds{
		{-1, 0}, {-1, 2}, {-1, -1}, {-2, -1}, {-1, 3}, // From below 0
		{1, 0}, {2, 1}, {2, 0}, {0, -1}, {3, 2}, // To below From
		{0, 3}, {2, 3}, {3, 3}, {0, 4}, {3, 4}, {4, 3}, // To no pick
	}
	for _, n := range farOut() {
		wrong = append(wrong, bounds{n, n}, bounds{0, n}, bounds{2, n}, bounds{n, 0}, bounds{n, 2})
	}
	for _, x := range wrong {
		for _, p := range append(somePasts(), noPasts()...) {
			same(t, fmt.Sprintf("%+v of %+v", x, p), asks(w, l, during(p, x.from, x.to)), not(api.ErrRange))
		}
	}
}

func TestNoPicks(t *testing.T) {
	for _, l := range [][]api.Pick{nil, {}} {
		for _, to := range []int{-1, 0, 1} {
			for _, p := range somePasts() {
				same(t, "no pick", asks(steady(), l, during(p, 0, to)), not(api.ErrRange))
			}
		}
	}
}

// P10.1: ErrMany

func TestMorePicksThanCanBe(t *testing.T) {
	for _, x := range []api.Pick{ticks(), refused()} {
		for _, p := range append(somePasts(), noPasts()...) {
			for _, n := range []int{api.MaxScript + 1, 3 * api.MaxScript} {
				same(t, "from 0 to 0", asks(steady(), script(x, n), p), not(api.ErrMany))
				same(t, "to the last", asks(steady(), script(x, n), during(p, 0, n-1)), not(api.ErrMany))
			}
		}
		for i, p := range somePasts() {
			last := api.MaxScript - 1
			same(t, "as many as can be", asks(steady(), script(x, api.MaxScript), during(p, i, last)), at(i))
			same(t, "as many as can be, the last", asks(steady(), script(x, api.MaxScript), during(p, last, last)), at(last))
		}
	}
}

// P10.1: chapter 9's Check's error

func TestWorldsThatAreWrong(t *testing.T) {
	for _, x := range []fault{
		{"no world", func(w *api.World) { *w = api.World{} }, api.ErrMany},
		{"more slots than may be", func(w *api.World) { w.M.Slots = make([]api.Slot, api.MaxSlots+1) }, api.ErrMany},
		{"a lock too few", func(w *api.World) { w.M.Locks = w.M.Locks[:1] }, api.ErrForm},
		{"time ahead of 0", func(w *api.World) { w.M.Now = -1 }, api.ErrRange},
		{"nothing stands there", func(w *api.World) { w.M.Slots[2].Next = 9 }, api.ErrWho},
		{"free twice", func(w *api.World) { w.M.Free = []int{3, 3} }, api.ErrTwice},
		{"no tasks", func(w *api.World) { w.Tasks = nil }, api.ErrRange},
		{"too many tasks", func(w *api.World) { w.Tasks = make([]api.Task, api.MaxTasks+1) }, api.ErrRange},
		{"too many are held", func(w *api.World) { w.Tasks[1].Held = make([]int, api.MaxCalls+1) }, api.ErrMany},
		{"what is held is no slot", func(w *api.World) { w.Tasks[1].Held = []int{4} }, api.ErrWho},
		{"a call of no kind", func(w *api.World) { w.Tasks[0].F.C.Kind = 9 }, api.ErrForm},
		{"a call that is done", func(w *api.World) { w.Tasks[0].F.Done = true }, api.ErrRange},
	} {
		for _, p := range append(somePasts(), noPasts()...) {
			for _, l := range [][]api.Pick{nil, script(ticks(), 2), script(ticks(), api.MaxScript+1)} {
				for _, from := range []int{-1, 0, 1} {
					same(t, x.what, asks(with(steady(), x.given), l, during(p, from, 1)), not(x.want))
				}
			}
		}
	}
}

// P10.1: Flows' error

// wrongChains: what Check takes, and Flows doesn't.
func wrongChains() []fault {
	return []fault{
		{"it goes round", func(w *api.World) { w.M.Slots[0].Next = 1 }, api.ErrForm},
		{"another's end", func(w *api.World) { w.M.Heads[1] = -1 }, api.ErrForm},
		{"a key of another chain", func(w *api.World) { w.M.Slots[0].K = far }, api.ErrForm},
		{"not In", func(w *api.World) { w.M.Slots[0].In = false }, api.ErrWho},
		{"nobody holds it", func(w *api.World) { w.M.Slots[0].Refs, w.M.Free = 0, []int{3, 0} }, api.ErrWho},
		{"twice the same key", func(w *api.World) { w.M.Slots[0].Next = 2 }, api.ErrTwice},
	}
}

// doing: a task goes on with that frame.
func doing(task int, f api.Frame) change {
	return func(w *api.World) { w.Tasks[task].Busy, w.Tasks[task].F = true, f }
}

func linking(task int, k api.Key, slot int) change {
	return doing(task, api.Frame{C: addOf(k, 1), At: 5, Slot: slot})
}

func cutting(task int, k api.Key, prev, cur int) change {
	return doing(task, api.Frame{C: dropOf(k), At: 4, Prev: prev, Cur: cur, Slot: -1})
}

// breaking: task 0 is ahead of a step behind which Flows has an error.
func breaking() []fault {
	both := func(l ...change) change { return func(w *api.World) { *w = with(*w, l...) } }
	return []fault{
		{"flow is linked twice", linking(0, flow, 1), api.ErrTwice},
		{"a slot is linked into another key's chain", linking(0, far, 1), api.ErrForm},
		{"a slot is linked that nobody holds", linking(0, near, 3), api.ErrWho},
		{"a chain goes round", both(cutting(0, near, 1, 3), func(w *api.World) { w.M.Slots[2].Next = 1 }), api.ErrForm},
		{"a chain begins with nothing", both(cutting(0, near, 0, 3), func(w *api.World) { w.M.Slots[2].Next = 0 }), api.ErrWho},
		{"more are held than may be", both(doing(0, api.Frame{C: lookFor(flow), At: 4, Slot: 0}), func(w *api.World) { w.Tasks[0].Held = make([]int, api.MaxCalls) }), api.ErrMany},
	}
}

func TestChainsThatAreWrong(t *testing.T) {
	for _, x := range wrongChains() {
		w := with(steady(), x.given)
		if e := world.Check(w); e != api.OK {
			t.Fatalf("%s: Check has error %d", x.what, e)
		}
		for _, p := range append(somePasts(), noPasts()...) {
			for _, y := range []api.Pick{ticks(), refused()} {
				same(t, x.what, asks(w, script(y), p), not(x.want))
				same(t, x.what, asks(w, script(y, 4), during(p, 2, 3)), not(x.want))
			}
		}
	}
}

// TestChainsThatGoWrong: the error is answered wherever From is, though a pick ahead of it accounts; behind To nothing is asked.
func TestChainsThatGoWrong(t *testing.T) {
	l := script(ticks(), refused(), goesOn(0), ticks(), refused())
	const wrong = 2
	for _, x := range breaking() {
		w := with(steady(), x.given)
		for from := range l {
			for to := from; to < len(l); to++ {
				what := fmt.Sprintf("%s, from %d to %d", x.what, from, to)
				for _, p := range somePasts() {
					want := at(from)
					if to >= wrong {
						want = not(x.want)
					}
					same(t, what, asks(w, l, during(p, from, to)), want)
				}
				for _, p := range noPasts() {
					want := not(api.ErrWho)
					if to >= wrong {
						want = not(x.want)
					}
					same(t, what, asks(w, l, during(p, from, to)), want)
				}
			}
		}
	}
}

// TestChainsThatAreRightAgain: an error stays one, though it is mended by a later pick.
func TestChainsThatAreRightAgain(t *testing.T) {
	// Behind pick 1 flow is mapped to slot 1 and to slot 0, behind pick 2 to slot 1 alone.
	w, l := with(steady(), linking(0, flow, 1), cutting(1, flow, 2, 1)), script(ticks(), goesOn(0), goesOn(1), ticks())
	v, _, _, _ := world.Run(w, l)
	if f, e := world.Flows(v); e != api.OK || len(f) != 1 || f[0].Slot != 1 {
		t.Fatalf("%+v, %d", f, e)
	}
	for _, p := range somePasts() {
		for from := range l {
			same(t, "from the first pick on", asks(w, l, during(p, from, 3)), not(api.ErrTwice))
		}
		same(t, "up to 0", asks(w, l, during(p, 0, 0)), at(0))
	}
	u, _, _, _ := world.Run(w, l[:2])
	for _, p := range somePasts() {
		same(t, "mended by the first pick", asks(u, l[2:], during(p, 0, 1)), not(api.ErrTwice))
		same(t, "mended by the first pick", asks(u, l[2:], during(p, 1, 1)), not(api.ErrTwice))
	}
}

// TestTheFirstErrorOfFlows: of several moments that have an error, that of the first one.
func TestTheFirstErrorOfFlows(t *testing.T) {
	p := done(listOf(0), api.OK, -1)
	w := with(steady(), linking(0, flow, 1), linking(1, far, 1))
	for _, x := range []struct {
		l    []api.Pick
		want api.Errno
	}{
		{script(goesOn(0), goesOn(1)), api.ErrTwice},
		{script(goesOn(1), goesOn(0)), api.ErrForm},
	} {
		same(t, tells(x.l), asks(w, x.l, during(p, 0, 1)), not(x.want))
	}
	w.M.Slots[0].In = false
	same(t, "ahead of the first", asks(w, script(goesOn(0), goesOn(1)), during(p, 1, 1)), not(api.ErrWho))
}

// TestPicksBehindToAreNotDone: what they would answer, or make of the world, is nobody's.
func TestPicksBehindToAreNotDone(t *testing.T) {
	for _, x := range breaking() {
		w := with(steady(), x.given)
		l := slices.Concat(script(ticks(), refused()), slices.Repeat(script(goesOn(0)), api.MaxScript-2))
		for _, p := range somePasts() {
			same(t, x.what, asks(w, l, during(p, 0, 1)), at(0))
			same(t, x.what, asks(w, l, during(p, 1, 1)), at(1))
		}
	}
	w, l := newWorld(t, 2, 2, 2), tale()
	for _, x := range tellings() {
		for to := range l {
			same(t, x.what, asks(w, l, during(x.p, 0, to)), asks(w, l[:to+1], during(x.p, 0, to)))
		}
	}
}

// Errors beside each other

// TestWhichErrorIsTold: each set of the five errors of the chapter is answered with the one that is told first.
func TestWhichErrorIsTold(t *testing.T) {
	const (
		wrong = 1 << iota
		many
		bounds
		flows
		who
		all
	)
	told := []api.Errno{api.ErrForm, api.ErrMany, api.ErrRange, api.ErrTwice, api.ErrWho}
	for set := range all {
		for _, ahead := range []bool{false, true} {
			w, l, p := steady(), script(goesOn(0), 3), during(done(lookFor(flow), api.OK, 0), 0, 2)
			want := at(0)
			for i := range told {
				if set>>i&1 == 1 {
					want = not(told[i])
					break
				}
			}
			if set&wrong != 0 {
				w.M.Locks = w.M.Locks[:1]
			}
			if set&many != 0 {
				l = script(goesOn(0), api.MaxScript+1)
			}
			if set&bounds != 0 {
				p.From, p.To = 2, 1
			}
			if set&flows != 0 && ahead {
				w.M.Slots[0].Next = 2
			} else if set&flows != 0 {
				linking(0, flow, 1)(&w)
			}
			if set&who != 0 {
				p.Slot = 7
			}
			same(t, fmt.Sprintf("set %05b, ahead %v", set, ahead), asks(w, l, p), want)
		}
	}
}
