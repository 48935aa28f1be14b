package key

import (
	"math"
	"regexp"
	"strings"
	"testing"

	"turnstile/api"
)

// eachKey goes through all keys that may be.
func eachKey(do func(k api.Key)) {
	for a := range api.MaxEnd + 1 {
		for b := range api.MaxEnd + 1 {
			do(api.Key{A: a, B: b})
		}
	}
}

// wrongKeys: one end, or both, out of range, just so and by far.
func wrongKeys() []api.Key {
	var l []api.Key
	for _, end := range []int{-1, api.MaxEnd + 1, math.MinInt, math.MaxInt} {
		l = append(l, api.Key{A: end}, api.Key{B: end}, api.Key{A: end, B: end},
			api.Key{A: end, B: api.MaxEnd}, api.Key{A: api.MaxEnd, B: end})
	}
	return l
}

// P1.1

func TestCheckTakesAllEndsInRange(t *testing.T) {
	eachKey(func(k api.Key) {
		if e := Check(k); e != api.OK {
			t.Errorf("Check(%v): %v, want OK", k, e)
		}
	})
}

func TestCheckRefusesEndsOutOfRange(t *testing.T) {
	for _, k := range wrongKeys() {
		if e := Check(k); e != api.ErrRange {
			t.Errorf("Check(%v): %v, want ErrRange", k, e)
		}
	}
}

func TestTurn(t *testing.T) {
	for _, c := range []struct{ k, want api.Key }{
		{api.Key{A: 1, B: 2}, api.Key{A: 2, B: 1}},
		{api.Key{A: 0, B: api.MaxEnd}, api.Key{A: api.MaxEnd, B: 0}},
		{api.Key{A: 7, B: 7}, api.Key{A: 7, B: 7}},
		{api.Key{A: -1, B: api.MaxEnd + 1}, api.Key{A: api.MaxEnd + 1, B: -1}},
		{api.Key{A: math.MinInt, B: math.MaxInt}, api.Key{A: math.MaxInt, B: math.MinInt}},
	} {
		if got := Turn(c.k); got != c.want {
			t.Errorf("Turn(%v): %v, want %v", c.k, got, c.want)
		}
	}
}

func TestBucket(t *testing.T) {
	for _, c := range []struct {
		k       api.Key
		buckets int
		want    int
	}{
		{api.Key{A: 1, B: 2}, 2, 1}, // 7, 6 and 2: 15
		{api.Key{A: 2, B: 1}, 2, 1}, // 14, 3 and 2: 19
		{api.Key{A: 2, B: 1}, 4, 3},
		{api.Key{A: 1, B: 0}, 4, 3}, // 7
		{api.Key{A: 0, B: 1}, 4, 3}, // 3
		{api.Key{A: 0, B: 1}, 3, 0},
		{api.Key{A: 1, B: 1}, 4, 3},                       // 7, 3 and 1: 11
		{api.Key{A: 1, B: 1}, 3, 2},                       // 11
		{api.Key{A: 5, B: 3}, 4, 3},                       // 35, 9 and 15: 59
		{api.Key{A: 5, B: 3}, 3, 2},                       // 59
		{api.Key{A: 0, B: 0}, api.MaxBuckets, 0},          // 0
		{api.Key{A: api.MaxEnd, B: 0}, api.MaxBuckets, 1}, // 105
		{api.Key{A: 0, B: api.MaxEnd}, api.MaxBuckets, 1}, // 45
		{api.Key{A: api.MaxEnd, B: api.MaxEnd}, 4, 3},     // 105, 45 and 225: 375
		{api.Key{A: api.MaxEnd, B: api.MaxEnd}, 3, 0},     // 375
		{api.Key{A: api.MaxEnd, B: api.MaxEnd}, 1, 0},
	} {
		got, e := Bucket(c.k, c.buckets)
		if got != c.want || e != api.OK {
			t.Errorf("Bucket(%v, %d): %d, %v, want %d, OK", c.k, c.buckets, got, e, c.want)
		}
	}
}

// sum adds up one by one what Bucket multiplies.
func sum(k api.Key) int {
	n := 0
	for range k.A {
		n += 7
		for range k.B {
			n++
		}
	}
	for range k.B {
		n += 3
	}
	return n
}

func TestBucketOfAllKeys(t *testing.T) {
	eachKey(func(k api.Key) {
		for buckets := 1; buckets <= api.MaxBuckets; buckets++ {
			got, e := Bucket(k, buckets)
			if got < 0 || got >= buckets || (sum(k)-got)%buckets != 0 || e != api.OK {
				t.Errorf("Bucket(%v, %d): %d, %v, of the sum %d", k, buckets, got, e, sum(k))
			}
		}
	})
}

func TestBucketRefuses(t *testing.T) {
	refused := func(k api.Key, buckets int) {
		if got, e := Bucket(k, buckets); got != 0 || e != api.ErrRange {
			t.Errorf("Bucket(%v, %d): %d, %v, want 0, ErrRange", k, buckets, got, e)
		}
	}
	wrongBuckets := []int{0, api.MaxBuckets + 1, -1, -2, math.MinInt, math.MaxInt}
	for _, buckets := range wrongBuckets {
		refused(api.Key{A: 1, B: 2}, buckets)
		refused(api.Key{A: 0, B: 0}, buckets)
	}
	for _, k := range wrongKeys() {
		for buckets := 1; buckets <= api.MaxBuckets; buckets++ {
			refused(k, buckets)
		}
		for _, buckets := range wrongBuckets {
			refused(k, buckets)
		}
	}
}

// P1.2

func TestPrint(t *testing.T) {
	for _, c := range []struct {
		k    api.Key
		want string
	}{
		{api.Key{A: 1, B: 2}, "1>2"},
		{api.Key{A: 2, B: 1}, "2>1"},
		{api.Key{A: 0, B: 0}, "0>0"},
		{api.Key{A: 0, B: api.MaxEnd}, "0>15"},
		{api.Key{A: api.MaxEnd, B: 0}, "15>0"},
		{api.Key{A: 10, B: 9}, "10>9"},
		{api.Key{A: api.MaxEnd, B: api.MaxEnd}, "15>15"},
	} {
		got, e := Print(c.k)
		if got != c.want || e != api.OK {
			t.Errorf("Print(%v): %q, %v, want %q, OK", c.k, got, e, c.want)
		}
	}
}

func TestPrintRefuses(t *testing.T) {
	for _, k := range wrongKeys() {
		if got, e := Print(k); got != "" || e != api.ErrRange {
			t.Errorf("Print(%v): %q, %v, want nothing, ErrRange", k, got, e)
		}
	}
}

func TestParse(t *testing.T) {
	for _, c := range []struct {
		s    string
		want api.Key
	}{
		{"1>2", api.Key{A: 1, B: 2}},
		{"2>1", api.Key{A: 2, B: 1}},
		{"0>0", api.Key{}},
		{"15>0", api.Key{A: api.MaxEnd}},
		{"0>15", api.Key{B: api.MaxEnd}},
		{"10>9", api.Key{A: 10, B: 9}},
		{"15>15", api.Key{A: api.MaxEnd, B: api.MaxEnd}},
	} {
		got, e := Parse(c.s)
		if got != c.want || e != api.OK {
			t.Errorf("Parse(%q): %v, %v, want %v, OK", c.s, got, e, c.want)
		}
	}
}

// refusedTexts: what Parse refuses, by its error.
func refusedTexts() map[api.Errno][]string {
	return map[api.Errno][]string{
		api.ErrMany: {
			"1234567890123456789>1", // 21 bytes, and else only out of range
			"000000000000000000>01", // 21 bytes, and written otherwise
			"1>2" + strings.Repeat(" ", 18),
			strings.Repeat(">", 21),
			strings.Repeat("x", 1000),
			strings.Repeat("\u20ac", 7), // 21 bytes, but 7 runes
			strings.Repeat("\xff", 21),
		},
		api.ErrText: {
			"", ">", "1", "1>", ">2", "1>2>3", "1>>2", "1>2>", ">1>2", "1<2", "1-2", "12",
			"01>2", "1>02", "00>0", "0>00", "-0>1", "1>-0", "+1>2", "1>+2", "--1>2", "-01>2", "->2", "1>-",
			" 1>2", "1>2 ", "1 >2", "1> 2", "1>2\n", "1>2\x00", "1_0>2", "0x1>2", "1.0>2", "1e0>2", "a>b",
			"\uff11>2", "\u0661>2", "1\uff1e2", "1\xff>2",
			strings.Repeat("1", 20),
			strings.Repeat(">", 20),
			strings.Repeat("\u20ac", 6),
			"9999999999999999999>", // more than an int holds
			">9999999999999999999",
			"000000000000000001>2",                           // 20 bytes
			"16>02", "016>2", "99>x", "-1>", "x>-1", "-1>-0", // out of range too, but written otherwise first
		},
		api.ErrRange: {
			"16>0", "0>16", "1>16", "16>16", "-1>2", "2>-1", "-1>-1", "100>1", "1>100", "-15>0", "-16>16",
			"999999999999999999>1", // 20 bytes
			"1>999999999999999999",
			"-99999999999999999>1",
			"999999999>9999999999",
		},
	}
}

func TestParseRefuses(t *testing.T) {
	for want, texts := range refusedTexts() {
		for _, s := range texts {
			if got, e := Parse(s); got != (api.Key{}) || e != want {
				t.Errorf("Parse(%q), of %d bytes: %v, %v, want no key, %v", s, len(s), got, e, want)
			}
		}
	}
}

// eachText goes through all texts of these letters, up to so many behind s.
func eachText(s, letters string, many int, do func(s string)) {
	do(s)
	if many == 0 {
		return
	}
	for i := range len(letters) {
		eachText(s+letters[i:i+1], letters, many-1, do)
	}
}

func TestParseOfAllShortTexts(t *testing.T) {
	keys := map[string]api.Key{}
	eachKey(func(k api.Key) {
		s, _ := Print(k)
		keys[s] = k
	})
	written := regexp.MustCompile(`^(0|-?[1-9][0-9]*)>(0|-?[1-9][0-9]*)$`)
	eachText("", "0156>-+ _", 5, func(s string) {
		k, known := keys[s]
		want := api.OK
		if !written.MatchString(s) {
			want = api.ErrText
		} else if !known {
			want = api.ErrRange
		}
		if got, e := Parse(s); got != k || e != want {
			t.Errorf("Parse(%q): %v, %v, want %v, %v", s, got, e, k, want)
		}
	})
}

// P1.3

func TestParseOfPrintIsTheKey(t *testing.T) {
	seen := map[string]api.Key{}
	eachKey(func(k api.Key) {
		s, e := Print(k)
		if e != api.OK {
			t.Errorf("Print(%v): %v, want OK", k, e)
		}
		if other, twice := seen[s]; twice {
			t.Errorf("Print(%v) and Print(%v) are both %q", k, other, s)
		}
		seen[s] = k
		if got, e := Parse(s); got != k || e != api.OK {
			t.Errorf("Parse(%q): %v, %v, want %v, OK", s, got, e, k)
		}
	})
}

func TestTurnedTwiceIsItself(t *testing.T) {
	same := func(k api.Key) {
		if got := Turn(Turn(k)); got != k {
			t.Errorf("Turn(Turn(%v)): %v", k, got)
		}
	}
	eachKey(same)
	for _, k := range wrongKeys() {
		same(k)
	}
}
