package fnv_test

import (
	libraryfnv "hash/fnv"
	"math"
	"math/big"
	"math/rand"
	"strings"
	"testing"

	"hassock/fnv"
)

// told is the hash in numbers without bounds, each step modulo 2^64, as the chapter says it.
func told(s string) uint64 {
	modulus := new(big.Int).Lsh(big.NewInt(1), 64)
	prime := big.NewInt(1099511628211)
	hash := new(big.Int).SetUint64(14695981039346656037)
	for _, c := range []byte(s) {
		hash.Xor(hash, big.NewInt(int64(c)))
		hash.Mul(hash, prime)
		hash.Mod(hash, modulus)
	}
	return hash.Uint64()
}

// library is the hash as Go's library has it.
func library(s string) uint64 {
	h := libraryfnv.New64a()
	h.Write([]byte(s))
	return h.Sum64()
}

// texts are of many lengths and kinds, the same ones at each run.
func texts() []string {
	r := rand.New(rand.NewSource(1))
	l := []string{
		"", "\x00", "\x00\x00", "\xff", "\xff\xff", "\x00\xff", "\xff\x00", "a", "b", "ab", "ba", "a\x00", "\x00a",
		"foobar", "\u00e9", "\u20ac", "\U0001f600", "\xc3", "\xed\xa0\x80",
		strings.Repeat("\x00", 40), strings.Repeat("\xff", 40), strings.Repeat("a", 64),
	}
	for n := 1; n <= 70; n++ {
		b := make([]byte, n)
		r.Read(b)
		l = append(l, string(b))
	}
	return l
}

// noPlaces are numbers of places that there can't be.
func noPlaces() []int {
	l := []int{math.MinInt, math.MinInt + 1, math.MaxInt, math.MaxInt - 1, 0, -1, -2, -3, -4, -8, -16, 12, 100, 1000}
	for k := range 63 {
		l = append(l, -1<<k)
		if k > 30 {
			l = append(l, 1<<k)
		}
		if k >= 2 {
			l = append(l, 1<<k-1, 1<<k+1, 1<<k+1<<(k-1))
		}
	}
	return l
}

// P3.1
func TestHashOfKnownTexts(t *testing.T) {
	for _, c := range []struct {
		text string
		want uint64
	}{
		{"", 14695981039346656037},
		{"\x00", 0xAF63BD4C8601B7DF},
		{"\xff", 0xAF64724C8602EB6E},
		{"\x00\x00", 0x08328807B4EB6FED},
		{"a", 0xAF63DC4C8601EC8C},
		{"b", 0xAF63DF4C8601F1A5},
		{"foo", 0xDCB27518FED9D577},
		{"foobar", 0x85944171F73967E8},
	} {
		if n := fnv.Hash(c.text); n != c.want {
			t.Errorf("Hash(%q) is %#x, not %#x", c.text, n, c.want)
		}
	}
}

// P3.1
func TestHashOfEachByte(t *testing.T) {
	for c := range 256 {
		for _, s := range []string{string([]byte{byte(c)}), string([]byte{'x', byte(c)}), string([]byte{byte(c), 'x'})} {
			if n, want := fnv.Hash(s), told(s); n != want {
				t.Errorf("Hash(%q) is %#x, not %#x", s, n, want)
			}
		}
	}
}

// P3.1
func TestHashAsTold(t *testing.T) {
	for _, s := range texts() {
		n := fnv.Hash(s)
		if want := told(s); n != want {
			t.Errorf("Hash(%q) is %#x, step by step %#x", s, n, want)
		}
		if want := library(s); n != want {
			t.Errorf("Hash(%q) is %#x, the library's %#x", s, n, want)
		}
	}
}

// P3.1: a byte 0 counts, and so does each one at the end.
func TestHashOfBytesZeroAnd255(t *testing.T) {
	seen := map[uint64]string{}
	for _, c := range []string{"\x00", "\xff"} {
		for length := 1; length <= 300; length++ {
			s := strings.Repeat(c, length)
			n := fnv.Hash(s)
			if want := told(s); n != want {
				t.Errorf("Hash of %d times %q is %#x, not %#x", length, c, n, want)
			}
			if other, twice := seen[n]; twice {
				t.Errorf("%d times %q and %q have one hash, %#x", length, c, other, n)
			}
			seen[n] = s
		}
	}
}

// P3.1
func TestHashOfALongText(t *testing.T) {
	s := strings.Repeat("one log for many tenants; \x00\xff", 40000)
	if n, want := fnv.Hash(s), library(s); n != want {
		t.Errorf("Hash of %d bytes is %#x, not %#x", len(s), n, want)
	}
}

// P3.1: nothing is kept from call to call.
func TestHashTwiceTheSame(t *testing.T) {
	first := map[string]uint64{}
	for _, s := range texts() {
		first[s] = fnv.Hash(s)
	}
	for _, s := range texts() {
		if n := fnv.Hash(s); n != first[s] {
			t.Errorf("Hash(%q) is %#x, and was %#x", s, n, first[s])
		}
	}
}

// P3.1
func TestHomeOfKnownTexts(t *testing.T) {
	for _, c := range []struct {
		text         string
		places, want int
	}{
		{"", 1, 0},
		{"", 2, 1},
		{"", 4, 1},
		{"", 8, 5},
		{"", 1 << 30, 0x04222325},
		{"a", 1, 0},
		{"a", 2, 0},
		{"a", 8, 4},
		{"a", 16, 12},
		{"a", 256, 0x8C},
		{"a", 1 << 29, 0x0601EC8C},
		{"a", 1 << 30, 0x0601EC8C},
		{"foobar", 1 << 29, 0x173967E8},
		{"foobar", 1 << 30, 0x373967E8},
		{"\x00", 16, 15},
		{"\xff", 16, 14},
	} {
		if n := fnv.Home(c.text, c.places); n != c.want {
			t.Errorf("Home(%q, %d) is %d, not %d", c.text, c.places, n, c.want)
		}
	}
}

// P3.1
func TestHomeAsTold(t *testing.T) {
	for _, s := range texts() {
		for k := 0; k <= 30; k++ {
			want := int(told(s) % (1 << k))
			if n := fnv.Home(s, 1<<k); n != want {
				t.Errorf("Home(%q, 2^%d) is %d, not %d", s, k, n, want)
			}
		}
	}
}

// P3.1
func TestHomeAmongNoPlaces(t *testing.T) {
	for _, places := range noPlaces() {
		for _, s := range texts() {
			if n := fnv.Home(s, places); n != 0 {
				t.Errorf("Home(%q, %d) is %d, not 0", s, places, n)
			}
		}
	}
}

// P3.1: all small numbers of places, and just the powers of 2 have homes beside 0.
func TestHomeAmongFewPlaces(t *testing.T) {
	for places := -300; places <= 1100; places++ {
		power := false
		for k := range 11 {
			power = power || places == 1<<k
		}
		for _, s := range texts() {
			want := 0
			if power {
				want = int(told(s) % uint64(places))
			}
			if n := fnv.Home(s, places); n != want {
				t.Fatalf("Home(%q, %d) is %d, not %d", s, places, n, want)
			}
		}
	}
}

// P3.1: the greatest number of places, and its neighbours.
func TestHomeAtTheMostPlaces(t *testing.T) {
	s := "foobar"
	for _, c := range []struct{ places, want int }{
		{1<<30 - 1, 0}, {1 << 30, 0x373967E8}, {1<<30 + 1, 0}, {1<<31 - 1, 0}, {1 << 31, 0}, {1 << 32, 0}, {1<<32 + 16, 0}, {1 << 62, 0},
	} {
		if n := fnv.Home(s, c.places); n != c.want {
			t.Errorf("Home(%q, %d) is %d, not %d", s, c.places, n, c.want)
		}
	}
}

// P3.2
func TestHomeIsOneOfThePlaces(t *testing.T) {
	for _, s := range texts() {
		for k := 0; k <= 30; k++ {
			if n := fnv.Home(s, 1<<k); n < 0 || n >= 1<<k {
				t.Errorf("Home(%q, 2^%d) is %d", s, k, n)
			}
		}
	}
}

// P3.2
func TestHomeOfHalfAsMany(t *testing.T) {
	for _, s := range texts() {
		for k := 1; k <= 30; k++ {
			half := 1 << (k - 1)
			whole := fnv.Home(s, 2*half)
			if n := fnv.Home(s, half); n != whole%half {
				t.Errorf("Home(%q, 2^%d) is %d, and among twice as many %d", s, k-1, n, whole)
			}
		}
	}
}

// P3.2: each of few places is the home of some text.
func TestEachPlaceIsAHome(t *testing.T) {
	const places = 256
	var found [places]int
	for c := range 1 << 16 {
		found[fnv.Home(string([]byte{byte(c), byte(c >> 8)}), places)]++
	}
	for place, count := range found {
		if count == 0 {
			t.Errorf("place %d is no text's home", place)
		}
	}
}
