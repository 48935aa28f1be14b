package base

import (
	"math"
	"reflect"
	"testing"

	"turnstile/api"
)

// midst: a frame of which no field is zero.
func midst() api.Frame {
	return api.Frame{C: api.Call{Kind: api.Add, K: api.Key{A: 1, B: 2}, Time: 3}, At: 4, Cur: 2, Prev: 1, Slot: 3, N: 5, Keys: []api.Key{{A: 6, B: 7}}, E: api.ErrLate}
}

func TestTo(t *testing.T) {
	want := midst()
	want.At = 8
	if f := To(midst(), 8); !reflect.DeepEqual(f, want) {
		t.Errorf("To: %+v, want %+v", f, want)
	}
}

func TestStandsAt(t *testing.T) {
	m := sample()
	for n := 1; n <= len(m.Slots); n++ {
		f := midst()
		f.Cur = n
		if a, is := StandsAt(&m, f); a != n-1 || !is {
			t.Errorf("Cur %d: %d, %v", n, a, is)
		}
	}
	for _, n := range []int{0, -1, -2, len(m.Slots) + 1, math.MinInt, math.MaxInt} {
		f := midst()
		f.Cur = n
		if a, is := StandsAt(&m, f); is {
			t.Errorf("Cur %d is no slot: %d, %v", n, a, is)
		}
	}
}

func TestFromBegin(t *testing.T) {
	for b, begin := range sample().Heads {
		m, f, want := sample(), midst(), midst()
		want.Prev, want.Cur = 0, begin
		if got, did := FromBegin(&m, b, f); !did || !reflect.DeepEqual(got, want) || !reflect.DeepEqual(m, sample()) {
			t.Errorf("chain %d: %v, %+v, want %+v; %+v", b, did, got, want, m)
		}
	}
	for _, b := range []int{-1, len(sample().Heads), math.MinInt, math.MaxInt} {
		m := sample()
		if got, did := FromBegin(&m, b, midst()); did || !reflect.DeepEqual(got, midst()) || !reflect.DeepEqual(m, sample()) {
			t.Errorf("chain %d: %v, %+v, %+v", b, did, got, m)
		}
	}
}

func TestOnward(t *testing.T) {
	for a, s := range sample().Slots {
		m, f := sample(), midst()
		f.Cur = a + 1
		want := f
		want.Prev, want.Cur = a+1, s.Next
		if got, did := Onward(&m, f); !did || !reflect.DeepEqual(got, want) || !reflect.DeepEqual(m, sample()) {
			t.Errorf("from slot %d: %v, %+v, want %+v; %+v", a, did, got, want, m)
		}
	}
	for _, n := range []int{0, -1, -2, len(sample().Slots) + 1, math.MinInt, math.MaxInt} {
		m, f := sample(), midst()
		f.Cur = n
		if got, did := Onward(&m, f); did || !reflect.DeepEqual(got, f) || !reflect.DeepEqual(m, sample()) {
			t.Errorf("from %d, which is no slot: %v, %+v, %+v", n, did, got, m)
		}
	}
}

func TestLetGo(t *testing.T) {
	for a := range sample().Slots {
		m, n, f := sample(), sample(), midst()
		Put(&n, a)
		f.Slot = a
		want := f
		want.Slot = -1
		if got, had := LetGo(&m, f); !had || !reflect.DeepEqual(got, want) || !reflect.DeepEqual(m, n) {
			t.Errorf("Slot %d: %v, %+v, %+v, want %+v, %+v", a, had, got, m, want, n)
		}
	}
	for _, a := range []int{-1, -2, len(sample().Slots), math.MinInt, math.MaxInt} {
		m, f := sample(), midst()
		f.Slot = a
		if got, had := LetGo(&m, f); had || !reflect.DeepEqual(got, f) || !reflect.DeepEqual(m, sample()) {
			t.Errorf("Slot %d: %v, %+v, %+v", a, had, got, m)
		}
	}
}

func TestCutOut(t *testing.T) {
	for _, x := range []struct{ b, prev, cur int }{{0, 0, 1}, {0, 1, 2}, {1, 0, 3}, {1, 0, 1}, {0, 5, 2}, {0, 2, 2}} {
		m, want, f := sample(), sample(), midst()
		f.Prev, f.Cur = x.prev, x.cur
		Cut(&want, x.b, x.prev, x.cur-1)
		if a, did := CutOut(&m, x.b, f); a != x.cur-1 || !did || !reflect.DeepEqual(m, want) {
			t.Errorf("%+v: %d, %v, %+v, want %+v", x, a, did, m, want)
		}
	}
}

func TestCutOutOfWhatThereIsNot(t *testing.T) {
	out := []int{math.MinInt, math.MinInt + 1, -3, 7, math.MaxInt - 1, math.MaxInt}
	none := func(b, prev, cur int) {
		m, f := sample(), midst()
		f.Prev, f.Cur = prev, cur
		if a, did := CutOut(&m, b, f); a != 0 || did || !reflect.DeepEqual(m, sample()) {
			t.Errorf("chain %d, Prev %d, Cur %d: %d, %v, %+v", b, prev, cur, a, did, m)
		}
	}
	for _, n := range append(out, -1, 2) {
		none(n, 0, 1)
		none(n, 1, 2)
	}
	for _, n := range append(out, -2, -1, 6) {
		none(0, n, 1)
		none(0, 0, n)
	}
	none(0, 0, 0)
}
