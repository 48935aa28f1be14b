// Package key: keys of flows, by their two ends; see doc/01-key.md.
package key

import (
	"strconv"
	"strings"

	"turnstile/api"
)

const (
	between = ">"
	maxText = 20
)

// Check tells whether both ends of k may be.
func Check(k api.Key) api.Errno {
	for _, end := range endsOf(k) {
		if end < 0 || end > api.MaxEnd {
			return api.ErrRange
		}
	}
	return api.OK
}

// Turn answers k as it is seen from its other end.
func Turn(k api.Key) api.Key {
	ends := endsOf(k)
	return keyOf([2]int{ends[1], ends[0]})
}

// Bucket answers in which of so many chains k belongs.
func Bucket(k api.Key, buckets int) (int, api.Errno) {
	if e := Check(k); e != api.OK {
		return 0, e
	}
	if buckets < 1 || buckets > api.MaxBuckets {
		return 0, api.ErrRange
	}
	return (7*k.A + 3*k.B + k.A*k.B) % buckets, api.OK
}

// Print answers k as a text.
func Print(k api.Key) (string, api.Errno) {
	if e := Check(k); e != api.OK {
		return "", e
	}
	return write(k), api.OK
}

// Parse answers the key of which Print wrote s.
func Parse(s string) (api.Key, api.Errno) {
	if len(s) > maxText {
		return api.Key{}, api.ErrMany
	}
	k, written := read(s)
	if !written {
		return api.Key{}, api.ErrText
	}
	if e := Check(k); e != api.OK {
		return api.Key{}, e
	}
	return k, api.OK
}

// endsOf lays both ends side by side, so that what holds of one is asked of the other alike.
func endsOf(k api.Key) [2]int { return [2]int{k.A, k.B} }

func keyOf(ends [2]int) api.Key { return api.Key{A: ends[0], B: ends[1]} }

// write leaves Check to its callers: Parse tells a text that is written otherwise from one whose ends are out of range.
func write(k api.Key) string {
	return strconv.Itoa(k.A) + between + strconv.Itoa(k.B)
}

// read tells whether write writes s, and of which key.
func read(s string) (api.Key, bool) {
	a, b, _ := strings.Cut(s, between)
	var ends [2]int
	for i, text := range [2]string{a, b} {
		end, err := strconv.Atoi(text)
		if err != nil {
			return api.Key{}, false
		}
		ends[i] = end
	}
	k := keyOf(ends)
	// Atoi takes more than Itoa writes (a plus, zeros ahead, -0): only the way back shows it.
	return k, write(k) == s
}
