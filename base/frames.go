package base

import "turnstile/api"

// NoSlot is the Slot of a frame that has none in its hands.
const NoSlot = -1

// To answers f with that place as its next one.
func To(f api.Frame, at int) api.Frame {
	f.At = at
	return f
}

// StandsAt answers at which slot of m the call stands, and whether it stands at one.
func StandsAt(m *api.Mem, f api.Frame) (int, bool) {
	a, is := SlotOf(f.Cur)
	return a, is && HasSlot(*m, a)
}

// LetGo puts the slot that f has in its hands, and tells whether it had one.
func LetGo(m *api.Mem, f api.Frame) (api.Frame, bool) {
	if !HasSlot(*m, f.Slot) {
		return f, false
	}
	Put(m, f.Slot)
	f.Slot = NoSlot
	return f, true
}
