package base

import (
	"math"
	"slices"
	"testing"

	"turnstile/api"
)

func TestNumbersOfSlots(t *testing.T) {
	for a := range api.MaxSlots {
		if n := ToSlot(a); n != a+1 {
			t.Errorf("ToSlot(%d): %d, want %d", a, n, a+1)
		}
		if got, is := SlotOf(ToSlot(a)); got != a || !is {
			t.Errorf("SlotOf(ToSlot(%d)): %d, %v, want %d, true", a, got, is, a)
		}
	}
}

func TestNumbersThatAreNoSlots(t *testing.T) {
	for _, n := range []int{0, -1, -api.MaxBuckets, math.MinInt} {
		if a, is := SlotOf(n); a != 0 || is {
			t.Errorf("SlotOf(%d): %d, %v, want 0, false", n, a, is)
		}
	}
	for b := range api.MaxBuckets {
		if n := ToEnd(b); n+b != -1 {
			t.Errorf("ToEnd(%d): %d", b, n)
		}
		if a, is := SlotOf(ToEnd(b)); is {
			t.Errorf("SlotOf(ToEnd(%d)): %d, true, want false", b, a)
		}
	}
}

func TestHas(t *testing.T) {
	m := api.Mem{Slots: make([]api.Slot, 3), Heads: make([]int, 2)}
	for _, c := range []struct {
		n           int
		slot, chain bool
	}{
		{0, true, true}, {1, true, true}, {2, true, false}, {3, false, false},
		{-1, false, false}, {math.MinInt, false, false}, {math.MaxInt, false, false},
	} {
		if HasSlot(m, c.n) != c.slot || HasChain(m, c.n) != c.chain {
			t.Errorf("%d: HasSlot %v, HasChain %v, want %v, %v", c.n, HasSlot(m, c.n), HasChain(m, c.n), c.slot, c.chain)
		}
		if HasSlot(api.Mem{}, c.n) || HasChain(api.Mem{}, c.n) {
			t.Errorf("%d: the zero Mem has a slot or a chain", c.n)
		}
	}
}

func TestCopyIsAlikeAndItsOwn(t *testing.T) {
	whole := []int{1, 2, 3, 4}
	m := api.Mem{Slots: []api.Slot{{Refs: 1}, {Next: -1}}, Heads: whole[:1], Free: whole[1:1], Locks: whole[2:3], Now: 7}
	n := Copy(m)
	if !slices.Equal(n.Slots, m.Slots) || !slices.Equal(n.Heads, m.Heads) || len(n.Free) != 0 || !slices.Equal(n.Locks, m.Locks) || n.Now != 7 {
		t.Errorf("Copy(%v): %v", m, n)
	}
	n.Slots[0].Refs, n.Heads[0], n.Locks[0] = 9, 9, 9
	n.Heads, n.Free, n.Locks = append(n.Heads, 9), append(n.Free, 9), append(n.Locks, 9)
	if m.Slots[0].Refs != 1 || !slices.Equal(whole, []int{1, 2, 3, 4}) {
		t.Errorf("a copy that is changed changes what it was made of: %v, %v", m, whole)
	}
}

func TestWithin(t *testing.T) {
	for _, c := range []struct {
		n, least, most int
		want           bool
	}{
		{2, 2, 4, true}, {3, 2, 4, true}, {4, 2, 4, true}, {1, 2, 4, false}, {5, 2, 4, false},
		{0, 0, 0, true}, {0, 0, -1, false}, {-1, 0, -1, false},
		{math.MinInt, -4, 4, false}, {math.MaxInt, -4, 4, false},
		{math.MinInt, math.MinInt, math.MaxInt, true}, {math.MaxInt, math.MinInt, math.MaxInt, true},
	} {
		if got := Within(c.n, c.least, c.most); got != c.want {
			t.Errorf("Within(%d, %d, %d): %v, want %v", c.n, c.least, c.most, got, c.want)
		}
	}
}

func TestListIsAlikeAndItsOwn(t *testing.T) {
	room := []int{1, 2, 3, 4}
	for n := range len(room) + 1 {
		l := List(room[:n])
		if !slices.Equal(l, room[:n]) {
			t.Errorf("List(%v): %v", room[:n], l)
		}
		for i := range l {
			l[i] = 9
		}
		_ = append(l, 9)
		if !slices.Equal(room, []int{1, 2, 3, 4}) {
			t.Errorf("a list that is changed changes what it was made of: %v", room)
		}
	}
	if List([]int(nil)) != nil || List([]int{}) == nil {
		t.Errorf("List: nil and empty lists are not told apart any more")
	}
}
