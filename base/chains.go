package base

import "turnstile/api"

// Nobody is the lock of a chain that no task has.
const Nobody = -1

// Link puts slot a ahead of all others of chain b, so that nothing of the chain behind it needs to be changed.
func Link(m *api.Mem, b, a int) {
	s := &m.Slots[a]
	s.Next = m.Heads[b]
	s.In = true
	m.Heads[b] = ToSlot(a)
}

// Cut takes slot a out of chain b, and leaves the slot itself alone: who stands there still comes to what stood behind it. What is ahead is a number as Next, 0 being the begin.
func Cut(m *api.Mem, b, ahead, a int) {
	place := &m.Heads[b]
	if c, is := SlotOf(ahead); is {
		place = &m.Slots[c].Next
	}
	*place = m.Slots[a].Next
}

// Lock gives the lock of chain b to a task, and tells whether it could. It doesn't give it to the one who has it already: each call takes it for itself.
func Lock(m *api.Mem, b, task int) bool {
	if !isLockOf(m, b, Nobody) {
		return false
	}
	m.Locks[b] = task
	return true
}

// Unlock takes the lock of chain b from a task, if that has it: another one's stays.
func Unlock(m *api.Mem, b, task int) {
	if isLockOf(m, b, task) {
		m.Locks[b] = Nobody
	}
}

// isLockOf asks for the lock itself, for memory that is not checked may have fewer locks than chains.
func isLockOf(m *api.Mem, b, task int) bool {
	return Within(b, 0, len(m.Locks)-1) && m.Locks[b] == task
}
