package base

import (
	"math"
	"reflect"
	"slices"
	"testing"

	"turnstile/api"
)

// sample: slot 0 is held once, slot 1 twice, slot 2 as often as can be; 3 and 4 are free.
func sample() api.Mem {
	return api.Mem{
		Slots: []api.Slot{
			{Refs: 1, K: api.Key{A: 1, B: 2}, Until: 5, In: true, Next: 2},
			{Refs: 2, K: api.Key{A: 3, B: 4}, Until: 6, In: true, Next: -1},
			{Refs: api.MaxRefs, K: api.Key{A: 5, B: 6}, Until: 7, In: true, Next: -2},
			{K: api.Key{A: 7, B: 8}, Until: 8, In: true, Next: 1},
			{},
		},
		Heads: []int{1, 3},
		Free:  []int{3, 4},
		Locks: []int{-1, 2},
		Now:   3,
	}
}

func TestTake(t *testing.T) {
	m, want := sample(), sample()
	k := api.Key{A: 9, B: 10}
	want.Free = []int{3}
	want.Slots[4] = api.Slot{Refs: 1, K: k, Until: 11}
	if a, is := Take(&m, k, 11); a != 4 || !is || !reflect.DeepEqual(m, want) {
		t.Errorf("Take: %d, %v, %+v, want 4, true, %+v", a, is, m, want)
	}
	want.Free = []int{}
	want.Slots[3] = api.Slot{Refs: 1, K: k, Until: 12, Next: 1}
	if a, is := Take(&m, k, 12); a != 3 || !is || !reflect.DeepEqual(m, want) {
		t.Errorf("Take: %d, %v, %+v, want 3, true, %+v", a, is, m, want)
	}
	if a, is := Take(&m, k, 13); a != 0 || is || !reflect.DeepEqual(m, want) {
		t.Errorf("Take of none: %d, %v, %+v, want 0, false, %+v", a, is, m, want)
	}
}

func TestTakeOfWhatIsNoSlot(t *testing.T) {
	for _, n := range []int{-1, 5, math.MinInt, math.MaxInt} {
		m, want := sample(), sample()
		m.Free, want.Free = []int{3, n}, []int{3, n}
		if a, is := Take(&m, api.Key{}, 1); a != 0 || is || !reflect.DeepEqual(m, want) {
			t.Errorf("Take of %d: %d, %v, %+v, want 0, false, %+v", n, a, is, m, want)
		}
	}
}

func TestHold(t *testing.T) {
	for a, can := range []bool{true, true, false, false, false} {
		m, want := sample(), sample()
		if can {
			want.Slots[a].Refs++
		}
		if is := Hold(&m, a); is != can || !reflect.DeepEqual(m, want) {
			t.Errorf("Hold of %d: %v, %+v, want %v, %+v", a, is, m, can, want)
		}
	}
}

func TestPut(t *testing.T) {
	for a, can := range []bool{true, true, true, false, false} {
		m, want := sample(), sample()
		if can {
			want.Slots[a].Refs--
		}
		if a == 0 {
			want.Free = []int{3, 4, 0}
		}
		if is := Put(&m, a); is != can || !reflect.DeepEqual(m, want) {
			t.Errorf("Put of %d: %v, %+v, want %v, %+v", a, is, m, can, want)
		}
	}
}

// What was taken stands behind Free yet: to put a slot writes elsewhere.
func TestPutLeavesSpareRoomAlone(t *testing.T) {
	room := []int{3, 4, 77, 88}
	m := sample()
	m.Free = room[:2]
	Take(&m, api.Key{}, 0)
	Put(&m, 0)
	if !slices.Equal(m.Free, []int{3, 0}) || !slices.Equal(room, []int{3, 4, 77, 88}) {
		t.Errorf("Free is %v, and the room it was in %v", m.Free, room)
	}
}
