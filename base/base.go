// Package base: what the layers share beneath their calls: the numbers that stand behind slots, memory of one's own, what is done to its slots and chains, and what frames go on by.
package base

import "turnstile/api"

// ToSlot answers the number that stands for slot a.
func ToSlot(a int) int { return a + 1 }

// ToEnd answers the number that stands for the end of chain b.
func ToEnd(b int) int { return -1 - b }

// SlotOf answers which slot n stands for, and whether it stands for one.
func SlotOf(n int) (int, bool) {
	if n <= 0 {
		return 0, false
	}
	return n - 1, true
}

// HasSlot tells whether m has a slot a.
func HasSlot(m api.Mem, a int) bool { return 0 <= a && a < len(m.Slots) }

// HasChain tells whether m has a chain b.
func HasChain(m api.Mem, b int) bool { return 0 <= b && b < len(m.Heads) }

// Within tells whether n is from least to most.
func Within(n, least, most int) bool { return least <= n && n <= most }

// Copy answers memory like m that is the caller's own: no list of it shares anything with a list of m.
func Copy(m api.Mem) api.Mem {
	m.Slots = List(m.Slots)
	m.Heads = List(m.Heads)
	m.Free = List(m.Free)
	m.Locks = List(m.Locks)
	return m
}

// List answers a list like l that shares nothing with it. It stands in for slices.Clone, whose copy of an empty list still points at the list that it was made of.
func List[T any](l []T) []T {
	if l == nil {
		return nil
	}
	return append(make([]T, 0, len(l)), l...)
}
