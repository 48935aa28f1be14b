package base

import (
	"math"
	"reflect"
	"testing"

	"turnstile/api"
)

func TestLink(t *testing.T) {
	for b := range 2 {
		m, want := sample(), sample()
		want.Slots[4] = api.Slot{In: true, Next: []int{1, 3}[b]}
		want.Heads[b] = 5
		if Link(&m, b, 4); !reflect.DeepEqual(m, want) {
			t.Errorf("Link of 4 into %d: %+v, want %+v", b, m, want)
		}
	}
}

func TestLinkIntoAnEmptyChain(t *testing.T) {
	m, want := sample(), sample()
	m.Heads[1] = -2
	want.Slots[3].Next, want.Heads[1] = -2, 4
	if Link(&m, 1, 3); !reflect.DeepEqual(m, want) {
		t.Errorf("Link: %+v, want %+v", m, want)
	}
}

func TestCut(t *testing.T) {
	m, want := sample(), sample()
	want.Heads[0] = 2
	if Cut(&m, 0, 0, 0); !reflect.DeepEqual(m, want) {
		t.Errorf("Cut at the begin: %+v, want %+v", m, want)
	}
	m, want = sample(), sample()
	want.Slots[0].Next = -1
	if Cut(&m, 0, 1, 1); !reflect.DeepEqual(m, want) {
		t.Errorf("Cut behind another: %+v, want %+v", m, want)
	}
}

func TestLock(t *testing.T) {
	for _, x := range []struct {
		b, task int
		is      bool
	}{
		{0, 0, true}, {0, 4, true}, {1, 3, false}, {1, 2, false},
		{2, 1, false}, {-1, 1, false}, {math.MinInt, 1, false}, {math.MaxInt, 1, false},
	} {
		m, want := sample(), sample()
		if x.is {
			want.Locks[x.b] = x.task
		}
		if is := Lock(&m, x.b, x.task); is != x.is || !reflect.DeepEqual(m, want) {
			t.Errorf("Lock of %d for %d: %v, %+v, want %v, %+v", x.b, x.task, is, m, x.is, want)
		}
	}
}

func TestUnlock(t *testing.T) {
	for _, x := range []struct {
		b, task int
		is      bool
	}{
		{1, 2, true}, {1, 3, false}, {1, 0, false}, {0, 2, false},
		{2, 2, false}, {-1, 2, false}, {math.MinInt, 2, false}, {math.MaxInt, 2, false},
	} {
		m, want := sample(), sample()
		if x.is {
			want.Locks[x.b] = -1
		}
		if Unlock(&m, x.b, x.task); !reflect.DeepEqual(m, want) {
			t.Errorf("Unlock of %d by %d: %+v, want %+v", x.b, x.task, m, want)
		}
	}
}
