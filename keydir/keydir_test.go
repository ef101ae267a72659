package keydir_test

import (
	"math"
	"slices"
	"strconv"
	"strings"
	"testing"

	"hassock/api"
	"hassock/keydir"
)

// withHome is the first so many keys with this home among so many places, by rising numbers.
func withHome(home, places, count int) []string {
	var l []string
	for n := 0; len(l) < count; n++ {
		if key := strconv.Itoa(n); homeOf(key, places) == home {
			l = append(l, key)
		}
	}
	return l
}

// tableOf is a table in which these keys were put, in this order.
func tableOf(keys ...string) *keydir.Table {
	x := keydir.New()
	for i, key := range keys {
		x.Put(keydir.Entry{Key: key, Version: uint64(i) + 1})
	}
	return x
}

// lie holds a table's places against keys at places; all others must be free.
func lie(t *testing.T, x *keydir.Table, places int, keys map[int]string) {
	t.Helper()
	want := make([]string, places)
	for at, key := range keys {
		want[at] = strconv.Itoa(len(key)) + ":" + key
	}
	if l := x.Places(); !slices.Equal(l, want) {
		t.Errorf("Places are %q, not %q", l, want)
	}
}

// keysOf are a table's keys, as Entries tells them.
func keysOf(x *keydir.Table) []string {
	var l []string
	for _, e := range x.Entries() {
		l = append(l, e.Key)
	}
	return l
}

// P9.1, P9.2
func TestNewTable(t *testing.T) {
	x := keydir.New()
	if n := x.Len(); n != 0 {
		t.Errorf("Len is %d", n)
	}
	if l := x.Entries(); len(l) != 0 {
		t.Errorf("Entries are %v", l)
	}
	lie(t, x, 8, nil)
	for _, key := range []string{"", "a", "\x00", strings.Repeat("k", 64)} {
		if e, is := x.Get(key); is || e != (keydir.Entry{}) {
			t.Errorf("Get(%q) is %v, %t", key, e, is)
		}
		if x.Delete(key) {
			t.Errorf("%q was deleted", key)
		}
	}
	if n := x.Len(); n != 0 {
		t.Errorf("Len is %d behind deletions of what isn't there", n)
	}
}

// P9.1: all fields are kept as they are put, whatever they are.
func TestPutThenGet(t *testing.T) {
	for _, e := range []keydir.Entry{
		{Key: "a"},
		{Key: "a", Spot: api.Spot{Seg: 1, At: 2, Len: 3}, Version: 4, Expiry: 5, Size: 6},
		{Key: "a", Spot: api.Spot{Seg: math.MaxInt, At: math.MaxInt, Len: math.MaxInt}, Version: math.MaxUint64, Expiry: math.MaxUint64, Size: math.MaxInt},
		{Key: "a", Spot: api.Spot{Seg: math.MinInt, At: -1, Len: -2}, Size: math.MinInt},
		{},
		{Version: 7},
		{Key: "\x00", Version: 1 << 63},
		{Key: strings.Repeat("\xff", 1000), Size: 1},
	} {
		x := keydir.New()
		x.Put(e)
		if got, is := x.Get(e.Key); !is || got != e {
			t.Errorf("Get(%q) is %v, %t, not %v", e.Key, got, is, e)
		}
		if l := x.Entries(); len(l) != 1 || l[0] != e {
			t.Errorf("Entries are %v, not %v alone", l, e)
		}
		if n := x.Len(); n != 1 {
			t.Errorf("Len is %d, not 1", n)
		}
		for _, key := range []string{e.Key + "\x00", e.Key + "a", "b"} {
			if got, is := x.Get(key); is || got != (keydir.Entry{}) {
				t.Errorf("Get(%q) is %v, %t, where just %q is there", key, got, is, e.Key)
			}
		}
	}
}

// P9.1: there is one entry of a key, the one that was put last, and it lies where the key lay.
func TestPutOnceMore(t *testing.T) {
	keys := withHome(6, 8, 4)
	x := tableOf(keys...)
	want := x.Places()
	for i, key := range keys {
		e := keydir.Entry{Key: key, Spot: api.Spot{Seg: i, At: 1, Len: 2}, Version: 90 + uint64(i), Expiry: 3, Size: 4}
		x.Put(keydir.Entry{Key: key, Expiry: 77})
		x.Put(e)
		if got, is := x.Get(key); !is || got != e {
			t.Errorf("Get(%q) is %v, %t, not %v", key, got, is, e)
		}
	}
	if n := x.Len(); n != 4 {
		t.Errorf("Len is %d, not 4", n)
	}
	if l := x.Entries(); len(l) != 4 {
		t.Errorf("Entries are %v, not 4", l)
	}
	if l := x.Places(); !slices.Equal(l, want) {
		t.Errorf("Places are %q, not %q", l, want)
	}
}

// P9.1
func TestDelete(t *testing.T) {
	keys := []string{"", "a", "b", "ab", "ba", "a\x00"}
	x := tableOf(keys...)
	for i, key := range keys {
		if x.Delete(key + "zz") {
			t.Errorf("%q was deleted", key+"zz")
		}
		if !x.Delete(key) {
			t.Errorf("%q wasn't there", key)
		}
		if x.Delete(key) {
			t.Errorf("%q was deleted twice", key)
		}
		if e, is := x.Get(key); is || e != (keydir.Entry{}) {
			t.Errorf("Get(%q) is %v, %t, where it is gone", key, e, is)
		}
		if n := x.Len(); n != len(keys)-i-1 {
			t.Errorf("Len is %d, not %d", n, len(keys)-i-1)
		}
		for j, other := range keys[i+1:] {
			if e, is := x.Get(other); !is || e.Version != uint64(i+j)+2 {
				t.Errorf("Get(%q) is %v, %t, where %q is gone", other, e, is, key)
			}
		}
	}
	lie(t, x, 8, nil)
	x.Put(keydir.Entry{Key: "a", Size: 5})
	if e, is := x.Get("a"); !is || e != (keydir.Entry{Key: "a", Size: 5}) || x.Len() != 1 {
		t.Errorf("put once more, it is %v, %t, and Len %d", e, is, x.Len())
	}
}

// P9.1: keys rise by their bytes, one that another begins with ahead of that.
func TestEntriesRise(t *testing.T) {
	want := []string{"", "\x00", "\x00\x00", "\x01", "10", "2", "A", "Z", "a", "a\x00", "aa", "ab", "b", "ba", "z", "\x7f", "\xc3\xa9", "\xe2\x82\xac", "\xff", "\xff\xff"}
	for from := range want {
		keys := slices.Concat(want[from:], want[:from])
		if l := keysOf(tableOf(keys...)); !slices.Equal(l, want) {
			t.Errorf("Entries are of %q, not %q", l, want)
		}
		slices.Reverse(keys)
		x := tableOf(keys...)
		if l := keysOf(x); !slices.Equal(l, want) {
			t.Errorf("Entries are of %q, not %q", l, want)
		}
		for _, e := range x.Entries() {
			if got, is := x.Get(e.Key); !is || got != e {
				t.Errorf("Entries tells %v, Get %v, %t", e, got, is)
			}
		}
	}
}

// P9.1: what is told is new memory.
func TestWhatIsToldIsNew(t *testing.T) {
	x := tableOf("a", "b", "c")
	entries, places := x.Entries(), x.Places()
	changedEntries, changedPlaces := x.Entries(), x.Places()
	clear(changedEntries)
	for i := range changedPlaces {
		changedPlaces[i] = "1:z"
	}
	if l := x.Entries(); !slices.Equal(l, entries) {
		t.Errorf("Entries are %v, and were %v", l, entries)
	}
	if l := x.Places(); !slices.Equal(l, places) {
		t.Errorf("Places are %q, and were %q", l, places)
	}
	was := slices.Clone(entries)
	x.Put(keydir.Entry{Key: "a", Version: 99})
	x.Delete("b")
	if !slices.Equal(entries, was) {
		t.Errorf("entries that were told are %v now, and were %v", entries, was)
	}
	if places[homeOf("b", 8)] != "1:b" {
		t.Errorf("places that were told are %q now", places)
	}
}

// P9.1: tables share nothing.
func TestTwoTables(t *testing.T) {
	x, y := keydir.New(), keydir.New()
	x.Put(keydir.Entry{Key: "a", Size: 1})
	if _, is := y.Get("a"); is || y.Len() != 0 || y.Delete("a") {
		t.Error("what was put into one table is in another")
	}
	y.Put(keydir.Entry{Key: "a", Size: 2})
	y.Delete("a")
	if e, is := x.Get("a"); !is || e.Size != 1 {
		t.Errorf("what was put into one table is %v, %t", e, is)
	}
}

// P9.2: the length is in bytes, and any bytes may be in a key.
func TestPlacesOfOneKey(t *testing.T) {
	for _, c := range []struct{ key, want string }{
		{"", "0:"},
		{"a", "1:a"},
		{":", "1::"},
		{"1:a", "3:1:a"},
		{"\x00", "1:\x00"},
		{"\x00\xff", "2:\x00\xff"},
		{"\u00e9", "2:\u00e9"},
		{"\U0001f600", "4:\U0001f600"},
		{"\xed\xa0\x80", "3:\xed\xa0\x80"},
		{"123456789", "9:123456789"},
		{"1234567890", "10:1234567890"},
		{strings.Repeat("k", 64), "64:" + strings.Repeat("k", 64)},
		{strings.Repeat("k", 12345), "12345:" + strings.Repeat("k", 12345)},
	} {
		x := tableOf(c.key)
		want := make([]string, 8)
		want[homeOf(c.key, 8)] = c.want
		if l := x.Places(); !slices.Equal(l, want) {
			t.Errorf("Places of %q are %q, not %q", c.key, l, want)
		}
	}
}

// P9.2
func TestPlacesOfKnownKeys(t *testing.T) {
	x := tableOf("a")
	lie(t, x, 8, map[int]string{4: "a"})
	x.Put(keydir.Entry{})
	lie(t, x, 8, map[int]string{4: "a", 5: ""})
}

// P9.2: a key lies at its home, or at the first free place behind it, and behind the last place comes the first one.
func TestPlacesBehindAHome(t *testing.T) {
	seven := withHome(7, 8, 3)
	zero := withHome(0, 8, 1)[0]
	two := withHome(2, 8, 1)[0]
	x := tableOf(two)
	lie(t, x, 8, map[int]string{2: two})
	x.Put(keydir.Entry{Key: seven[0]})
	lie(t, x, 8, map[int]string{2: two, 7: seven[0]})
	x.Put(keydir.Entry{Key: seven[1]})
	lie(t, x, 8, map[int]string{2: two, 7: seven[0], 0: seven[1]})
	x.Put(keydir.Entry{Key: zero})
	lie(t, x, 8, map[int]string{2: two, 7: seven[0], 0: seven[1], 1: zero})
	x.Put(keydir.Entry{Key: seven[2]})
	lie(t, x, 8, map[int]string{2: two, 7: seven[0], 0: seven[1], 1: zero, 3: seven[2]})
	for _, key := range append(seven, zero, two) {
		if e, is := x.Get(key); !is || e.Key != key {
			t.Errorf("Get(%q) is %v, %t", key, e, is)
		}
	}
}

// P9.2: a table grows ahead of a key that would make more than three quarters of its places be taken.
func TestGrowsAtThreeQuarters(t *testing.T) {
	x := keydir.New()
	places := 8
	for n := 1; n <= 4000; n++ {
		x.Put(keydir.Entry{Key: strconv.Itoa(n)})
		for 4*n > 3*places {
			places *= 2
		}
		if len(x.Places()) != places || x.Len() != n {
			t.Fatalf("%d keys, Len %d, are in %d places, not %d", n, x.Len(), len(x.Places()), places)
		}
	}
	for n := 1; n <= 4000; n++ {
		if e, is := x.Get(strconv.Itoa(n)); !is || e.Key != strconv.Itoa(n) {
			t.Fatalf("Get of %d is %v, %t", n, e, is)
		}
	}
}

// P9.2: just a new key makes a table grow.
func TestDoesNotGrowForAKeyThatIsThere(t *testing.T) {
	keys := []string{"a", "b", "c", "d", "e", "f"}
	x := tableOf(keys...)
	want := x.Places()
	for _, key := range keys {
		x.Put(keydir.Entry{Key: key, Size: 9})
	}
	for _, key := range []string{"g", "h"} {
		x.Get(key)
		x.Delete(key)
	}
	if l := x.Places(); !slices.Equal(l, want) {
		t.Errorf("Places are %q, not %q", l, want)
	}
}

// P9.2: a key that is taken out makes room for another one, and a table gets no smaller.
func TestDeletedKeysMakeRoom(t *testing.T) {
	x := tableOf("a", "b", "c", "d", "e", "f")
	for n := range 100 {
		x.Delete(x.Entries()[n%6].Key)
		x.Put(keydir.Entry{Key: strconv.Itoa(n)})
	}
	if n := len(x.Places()); n != 8 || x.Len() != 6 {
		t.Errorf("%d keys are in %d places", x.Len(), n)
	}
	x.Put(keydir.Entry{Key: "g"})
	if n := len(x.Places()); n != 16 {
		t.Errorf("7 keys are in %d places", n)
	}
	for _, e := range x.Entries() {
		x.Delete(e.Key)
	}
	lie(t, x, 16, nil)
}

// P9.2: grown, it lays its keys place by place, from the first one on, and the new key last.
func TestGrowsPlaceByPlace(t *testing.T) {
	// All of these have home 15 among 16 places, and so 7 among 8.
	keys := withHome(15, 16, 7)
	x := tableOf(keys[:6]...)
	lie(t, x, 8, map[int]string{7: keys[0], 0: keys[1], 1: keys[2], 2: keys[3], 3: keys[4], 4: keys[5]})
	x.Put(keydir.Entry{Key: keys[6]})
	lie(t, x, 16, map[int]string{15: keys[1], 0: keys[2], 1: keys[3], 2: keys[4], 3: keys[5], 4: keys[0], 5: keys[6]})
	for i, key := range keys[:6] {
		if e, is := x.Get(key); !is || e.Version != uint64(i)+1 {
			t.Errorf("Get(%q) is %v, %t", key, e, is)
		}
	}
}

// P9.2: where it grows, keys come apart whose homes were one.
func TestGrownKeysComeApart(t *testing.T) {
	low, high := withHome(3, 16, 3), withHome(11, 16, 3)
	x := tableOf(low[0], high[0], low[1], high[1], low[2], high[2])
	lie(t, x, 8, map[int]string{3: low[0], 4: high[0], 5: low[1], 6: high[1], 7: low[2], 0: high[2]})
	x.Put(keydir.Entry{Key: withHome(4, 16, 1)[0]})
	lie(t, x, 16, map[int]string{11: high[2], 3: low[0], 12: high[0], 4: low[1], 13: high[1], 5: low[2], 6: withHome(4, 16, 1)[0]})
}

// P9.2, P9.3: those behind a key that is taken out move back, each one.
func TestDeletedKeysLeaveNoGap(t *testing.T) {
	keys := withHome(6, 8, 4)
	for gone, want := range []map[int]string{
		{6: keys[1], 7: keys[2], 0: keys[3]},
		{6: keys[0], 7: keys[2], 0: keys[3]},
		{6: keys[0], 7: keys[1], 0: keys[3]},
		{6: keys[0], 7: keys[1], 0: keys[2]},
	} {
		x := tableOf(keys...)
		if !x.Delete(keys[gone]) {
			t.Errorf("%q isn't there", keys[gone])
		}
		lie(t, x, 8, want)
	}
}

// P9.2, P9.3: none moves ahead of its home, but one behind it may, and none does that lies behind a free place.
func TestDeletedKeysMoveTheRightOnes(t *testing.T) {
	two := withHome(2, 8, 3)
	three, four := withHome(3, 8, 1)[0], withHome(4, 8, 1)[0]
	seven := withHome(7, 8, 1)[0]

	x := tableOf(two[0], three, four, two[1], seven)
	lie(t, x, 8, map[int]string{2: two[0], 3: three, 4: four, 5: two[1], 7: seven})
	x.Delete(two[0])
	lie(t, x, 8, map[int]string{2: two[1], 3: three, 4: four, 7: seven})

	x = tableOf(two[0], two[1], three, four, two[2])
	lie(t, x, 8, map[int]string{2: two[0], 3: two[1], 4: three, 5: four, 6: two[2]})
	x.Delete(two[0])
	lie(t, x, 8, map[int]string{2: two[1], 3: three, 4: four, 5: two[2]})
	x.Delete(three)
	lie(t, x, 8, map[int]string{2: two[1], 3: two[2], 4: four})
	x.Delete(four)
	lie(t, x, 8, map[int]string{2: two[1], 3: two[2]})

	x = tableOf(two[0], three, four)
	x.Delete(two[0])
	lie(t, x, 8, map[int]string{3: three, 4: four})
}

// P9.2, P9.3: keys move back over the end of the places.
func TestDeletedKeysMoveBackOverTheEnd(t *testing.T) {
	six, seven := withHome(6, 8, 2), withHome(7, 8, 2)
	zero, one := withHome(0, 8, 1)[0], withHome(1, 8, 1)[0]

	x := tableOf(six[0], six[1], seven[0], zero, one, seven[1])
	lie(t, x, 8, map[int]string{6: six[0], 7: six[1], 0: seven[0], 1: zero, 2: one, 3: seven[1]})
	x.Delete(six[0])
	lie(t, x, 8, map[int]string{6: six[1], 7: seven[0], 0: zero, 1: one, 2: seven[1]})
	x.Delete(six[1])
	lie(t, x, 8, map[int]string{7: seven[0], 0: zero, 1: one, 2: seven[1]})
	x.Delete(seven[0])
	lie(t, x, 8, map[int]string{7: seven[1], 0: zero, 1: one})
	x.Delete(seven[1])
	lie(t, x, 8, map[int]string{0: zero, 1: one})
}

// P9.3: what is asked, and a deletion of what isn't there, changes nothing.
func TestWhatIsAskedChangesNothing(t *testing.T) {
	x, y := keydir.New(), keydir.New()
	for n := range 300 {
		e := keydir.Entry{Key: strconv.Itoa(n % 90), Version: uint64(n)}
		x.Put(e)
		y.Put(e)
		if n%3 == 0 {
			x.Delete(strconv.Itoa(n % 70))
			y.Delete(strconv.Itoa(n % 70))
		}
		for k := range 90 {
			y.Get(strconv.Itoa(k))
			y.Delete("no " + strconv.Itoa(k))
		}
		y.Len()
		y.Places()
		y.Entries()
		if a, b := x.Places(), y.Places(); !slices.Equal(a, b) {
			t.Fatalf("unasked the places are %q, asked %q", a, b)
		}
		if a, b := x.Entries(), y.Entries(); !slices.Equal(a, b) {
			t.Fatalf("unasked the entries are %v, asked %v", a, b)
		}
	}
}

// P9.1, P9.3: many keys.
func TestManyKeys(t *testing.T) {
	const many = 100000
	x := keydir.New()
	for n := range many {
		x.Put(keydir.Entry{Key: strconv.Itoa(n), Version: uint64(n)})
	}
	if x.Len() != many || len(x.Places()) != 1<<18 {
		t.Errorf("%d keys are in %d places", x.Len(), len(x.Places()))
	}
	holdNoGap(t, x)
	for n := range many {
		if n%4 > 0 && !x.Delete(strconv.Itoa(n)) {
			t.Fatalf("%d isn't there", n)
		}
	}
	holdNoGap(t, x)
	for n := range many {
		e, is := x.Get(strconv.Itoa(n))
		if is != (n%4 == 0) || is && e.Version != uint64(n) {
			t.Fatalf("Get of %d is %v, %t", n, e, is)
		}
	}
	if l := keysOf(x); len(l) != many/4 || !slices.IsSorted(l) {
		t.Errorf("Entries are %d", len(l))
	}
}

// P9.1, P9.3: many keys, all of one home, which are taken out from the front.
func TestManyKeysOfOneHome(t *testing.T) {
	keys := withHome(1000, 1024, 700)
	x := tableOf(keys...)
	holdNoGap(t, x)
	for i, key := range keys {
		if !x.Delete(key) {
			t.Fatalf("%q isn't there", key)
		}
		for _, other := range []string{keys[i/2], keys[(i+len(keys))/2]} {
			_, is := x.Get(other)
			if want := slices.Index(keys, other) > i; is != want {
				t.Fatalf("Get(%q) is %t, not %t", other, is, want)
			}
		}
	}
	lie(t, x, 1024, nil)
}
