package base

import (
	"math"
	"reflect"
	"testing"

	"turnstile/api"
)

// midst: a frame of which no field is zero.
func midst() api.Frame {
	return api.Frame{C: api.Call{Kind: api.Add, K: api.Key{A: 1, B: 2}, Time: 3}, At: 4, Cur: 2, Prev: 1, Slot: 3, N: 5, Keys: []api.Key{{A: 6, B: 7}}, E: api.ErrLate}
}

func TestTo(t *testing.T) {
	want := midst()
	want.At = 8
	if f := To(midst(), 8); !reflect.DeepEqual(f, want) {
		t.Errorf("To: %+v, want %+v", f, want)
	}
}

func TestStandsAt(t *testing.T) {
	m := sample()
	for n := 1; n <= len(m.Slots); n++ {
		f := midst()
		f.Cur = n
		if a, is := StandsAt(&m, f); a != n-1 || !is {
			t.Errorf("Cur %d: %d, %v", n, a, is)
		}
	}
	for _, n := range []int{0, -1, -2, len(m.Slots) + 1, math.MinInt, math.MaxInt} {
		f := midst()
		f.Cur = n
		if a, is := StandsAt(&m, f); is {
			t.Errorf("Cur %d is no slot: %d, %v", n, a, is)
		}
	}
}

func TestLetGo(t *testing.T) {
	for a := range sample().Slots {
		m, n, f := sample(), sample(), midst()
		Put(&n, a)
		f.Slot = a
		want := f
		want.Slot = -1
		if got, had := LetGo(&m, f); !had || !reflect.DeepEqual(got, want) || !reflect.DeepEqual(m, n) {
			t.Errorf("Slot %d: %v, %+v, %+v, want %+v, %+v", a, had, got, m, want, n)
		}
	}
	for _, a := range []int{-1, -2, len(sample().Slots), math.MinInt, math.MaxInt} {
		m, f := sample(), midst()
		f.Slot = a
		if got, had := LetGo(&m, f); had || !reflect.DeepEqual(got, f) || !reflect.DeepEqual(m, sample()) {
			t.Errorf("Slot %d: %v, %+v, %+v", a, had, got, m)
		}
	}
}
