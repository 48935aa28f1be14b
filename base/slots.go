package base

import (
	"slices"

	"turnstile/api"
)

// MaxUntil is the greatest time until which a slot can be taken.
const MaxUntil = 2 * api.MaxTime

// Take takes a slot for k, and tells which one, and whether there was one. It leaves Next alone: who still stands at the slot goes on from there.
func Take(m *api.Mem, k api.Key, until int) (int, bool) {
	last := len(m.Free) - 1
	// Memory that is not checked may have in Free what is no slot.
	if last < 0 || !HasSlot(*m, m.Free[last]) {
		return 0, false
	}
	a := m.Free[last]
	m.Free = m.Free[:last]
	m.Slots[a] = api.Slot{Refs: 1, K: k, Until: until, Next: m.Slots[a].Next}
	return a, true
}

// Hold holds slot a, and tells whether it can be. It doesn't hold a free one: whoever takes that next begins with Refs of 1.
func Hold(m *api.Mem, a int) bool {
	s := &m.Slots[a]
	if s.Refs == 0 || s.Refs == api.MaxRefs {
		return false
	}
	s.Refs++
	return true
}

// Put puts slot a, and tells whether somebody held it. It changes nothing but Refs and Free: who still looks at the slot sees in it what was there.
func Put(m *api.Mem, a int) bool {
	s := &m.Slots[a]
	if s.Refs == 0 {
		return false
	}
	s.Refs--
	if s.Refs == 0 {
		// The room behind Free may be somebody else's.
		m.Free = append(slices.Clip(m.Free), a)
	}
	return true
}
