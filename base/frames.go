package base

import "turnstile/api"

// NoSlot is the Slot of a frame that has none in its hands.
const NoSlot = -1

// AtBegin is the Prev of a frame ahead of whose Cur there is no slot, but the chain's begin.
const AtBegin = 0

// To answers f with that place as its next one.
func To(f api.Frame, at int) api.Frame {
	f.At = at
	return f
}

// StandsAt answers at which slot of m the call stands, and whether it stands at one.
func StandsAt(m *api.Mem, f api.Frame) (int, bool) {
	a, is := SlotOf(f.Cur)
	return a, is && HasSlot(*m, a)
}

// FromBegin answers f standing at the begin of chain b, and tells whether there is such a chain.
func FromBegin(m *api.Mem, b int, f api.Frame) (api.Frame, bool) {
	if !HasChain(*m, b) {
		return f, false
	}
	f.Prev, f.Cur = AtBegin, m.Heads[b]
	return f, true
}

// Onward answers f standing behind the slot at which it stood, that one being ahead now, and tells whether it stood at one.
func Onward(m *api.Mem, f api.Frame) (api.Frame, bool) {
	a, is := StandsAt(m, f)
	if !is {
		return f, false
	}
	f.Prev, f.Cur = f.Cur, m.Slots[a].Next
	return f, true
}

// LetGo puts the slot that f has in its hands, and tells whether it had one.
func LetGo(m *api.Mem, f api.Frame) (api.Frame, bool) {
	if !HasSlot(*m, f.Slot) {
		return f, false
	}
	Put(m, f.Slot)
	f.Slot = NoSlot
	return f, true
}

// CutOut cuts the slot at which the call stands out of chain b, Prev being ahead of it, and tells which one, and whether it could.
func CutOut(m *api.Mem, b int, f api.Frame) (int, bool) {
	a, is := StandsAt(m, f)
	if !is || !HasChain(*m, b) || !canBeAhead(m, f.Prev) {
		return 0, false
	}
	Cut(m, b, f.Prev, a)
	return a, true
}

// canBeAhead asks for the slot itself, for a frame that is not checked may have a Prev that is none.
func canBeAhead(m *api.Mem, prev int) bool {
	a, is := SlotOf(prev)
	return prev == AtBegin || is && HasSlot(*m, a)
}
