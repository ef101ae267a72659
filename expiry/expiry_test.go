package expiry_test

import (
	"math"
	"slices"
	"strings"
	"testing"

	"hassock/expiry"
)

// heapOf is a heap to which these were pushed, in this order.
func heapOf(items ...expiry.Item) *expiry.Heap {
	h := expiry.New()
	for _, x := range items {
		h.Push(x)
	}
	return h
}

// popAll pops till nothing is there, once more at the most than there were items.
func popAll(h *expiry.Heap) []expiry.Item {
	var l []expiry.Item
	for range h.Len() + 1 {
		x, is := h.Pop()
		if !is {
			break
		}
		l = append(l, x)
	}
	return l
}

// holdEmpty holds all that a heap without items tells.
func holdEmpty(t *testing.T, h *expiry.Heap) {
	t.Helper()
	if n := h.Len(); n != 0 {
		t.Errorf("Len is %d, not 0", n)
	}
	if l := h.Items(); len(l) != 0 {
		t.Errorf("Items are %v, not none", l)
	}
	for _, now := range []uint64{0, 1, math.MaxUint64} {
		if l := h.Due(now); len(l) != 0 {
			t.Errorf("Due(%d) is %v, not nothing", now, l)
		}
	}
	if x, is := h.Pop(); is || x != (expiry.Item{}) {
		t.Errorf("Pop is %v, %t", x, is)
	}
	if n := h.Len(); n != 0 {
		t.Errorf("Len is %d behind a Pop of nothing", n)
	}
}

// P10.1
func TestNewHeap(t *testing.T) {
	h := expiry.New()
	holdEmpty(t, h)
	h.Push(expiry.Item{Time: 1, Key: "a"})
	holdEmpty(t, expiry.New())
	if n := h.Len(); n != 1 {
		t.Errorf("Len is %d, not 1", n)
	}
}

// P10.1: the chapter's example.
func TestExample(t *testing.T) {
	h := heapOf(expiry.Item{Time: 5, Key: "b"}, expiry.Item{Time: 3, Key: "c"}, expiry.Item{Time: 5, Key: "a"})
	want := []expiry.Item{{Time: 3, Key: "c"}, {Time: 5, Key: "a"}, {Time: 5, Key: "b"}}
	if l := popAll(h); !slices.Equal(l, want) {
		t.Errorf("%v are popped, not %v", l, want)
	}
	holdEmpty(t, h)
}

// P10.1: one item is told as it was pushed, whatever it is, also one that is all zero.
func TestOneItem(t *testing.T) {
	for _, x := range []expiry.Item{
		{},
		{Key: "a"},
		{Time: 1},
		{Time: math.MaxUint64, Key: "\x00"},
		{Time: 1 << 63, Key: strings.Repeat("\xff", 1000)},
	} {
		h := heapOf(x)
		if l := h.Items(); !slices.Equal(l, []expiry.Item{x}) {
			t.Errorf("Items are %v, not %v alone", l, x)
		}
		if n := h.Len(); n != 1 {
			t.Errorf("Len is %d, not 1", n)
		}
		if y, is := h.Pop(); !is || y != x {
			t.Errorf("Pop is %v, %t, not %v", y, is, x)
		}
		holdEmpty(t, h)
		if l := heapOf(x).Due(x.Time); !slices.Equal(l, []expiry.Item{x}) {
			t.Errorf("Due(%d) is %v, not %v alone", x.Time, l, x)
		}
	}
}

// P10.1, P10.3: times rise as numbers without a sign, and of alike ones keys by their bytes; in whatever order they were pushed.
func TestRising(t *testing.T) {
	want := []expiry.Item{
		{Time: 0, Key: "b"},
		{Time: 1, Key: ""},
		{Time: 1, Key: "\x00"},
		{Time: 1, Key: "10"},
		{Time: 1, Key: "9"},
		{Time: 1, Key: "B"},
		{Time: 1, Key: "a"},
		{Time: 1, Key: "a\x00"},
		{Time: 1, Key: "aa"},
		{Time: 1, Key: "b"},
		{Time: 1, Key: "\u00e4"},
		{Time: 1, Key: "\xff"},
		{Time: 2, Key: ""},
		{Time: 10, Key: "a"},
		{Time: 1<<32 + 1, Key: "a"},
		{Time: 1<<63 - 1, Key: "c"},
		{Time: 1 << 63, Key: "b"},
		{Time: math.MaxUint64, Key: "a"},
	}
	back := slices.Clone(want)
	slices.Reverse(back)
	for turn := range want {
		for _, from := range [][]expiry.Item{want, back} {
			h := heapOf(slices.Concat(from[turn:], from[:turn])...)
			if l := popAll(h); !slices.Equal(l, want) {
				t.Errorf("%v are popped, not %v", l, want)
			}
		}
		h := heapOf(slices.Concat(back[turn:], back[:turn])...)
		if l := h.Due(math.MaxUint64); !slices.Equal(l, want) {
			t.Errorf("%v are due, not %v", l, want)
		}
		holdEmpty(t, h)
	}
}

// P10.1, P10.3: what is pushed twice is there twice, and popped as often.
func TestAlikeItems(t *testing.T) {
	a, b := expiry.Item{Time: 4, Key: "a"}, expiry.Item{Time: 4, Key: "b"}
	h := heapOf(a, b, a, a, b)
	if n := h.Len(); n != 5 {
		t.Errorf("Len is %d, not 5", n)
	}
	hold(t, h, model{a, a, a, b, b})
	if l, want := popAll(h), []expiry.Item{a, a, a, b, b}; !slices.Equal(l, want) {
		t.Errorf("%v are popped, not %v", l, want)
	}
	h = heapOf(a, b, a, a, b)
	if l, want := h.Due(4), []expiry.Item{a, a, a, b, b}; !slices.Equal(l, want) {
		t.Errorf("%v are due, not %v", l, want)
	}
	holdEmpty(t, h)
}

// P10.1: each Pop takes one item out, and what is pushed between is taken in its turn.
func TestPopBetweenPushes(t *testing.T) {
	h := heapOf(expiry.Item{Time: 5, Key: "e"}, expiry.Item{Time: 7, Key: "g"})
	m := model{{Time: 5, Key: "e"}, {Time: 7, Key: "g"}}
	holdPop(t, h, &m)
	hold(t, h, m)
	for _, x := range []expiry.Item{{Time: 5, Key: "e"}, {Time: 1, Key: "z"}, {Time: 9, Key: "a"}} {
		h.Push(x)
		m = append(m, x)
		hold(t, h, m)
	}
	for range 5 {
		holdPop(t, h, &m)
		hold(t, h, m)
	}
}

// P10.1: what ends at the time itself is due, what ends one behind it isn't, and what isn't due stays.
func TestDue(t *testing.T) {
	items := []expiry.Item{{Time: 9, Key: "x"}, {Time: 4, Key: "b"}, {Time: 0, Key: "n"}, {Time: 7, Key: "z"}, {Time: 4, Key: "a"}, {Time: 5, Key: ""}, {Time: math.MaxUint64, Key: "m"}}
	for _, c := range []struct {
		now  uint64
		keys string
	}{
		{0, "n"}, {1, "n"}, {3, "n"}, {4, "n a b"}, {5, "n a b "}, {6, "n a b "}, {7, "n a b  z"}, {8, "n a b  z"}, {9, "n a b  z x"},
		{1 << 63, "n a b  z x"}, {math.MaxUint64 - 1, "n a b  z x"}, {math.MaxUint64, "n a b  z x m"},
	} {
		h, m := heapOf(items...), model(slices.Clone(items))
		l := h.Due(c.now)
		var keys []string
		for _, x := range l {
			keys = append(keys, x.Key)
		}
		if got := strings.Join(keys, " "); got != c.keys {
			t.Errorf("Due(%d) is %v, not %q", c.now, l, c.keys)
		}
		if want := m.due(c.now); !slices.Equal(l, want) {
			t.Errorf("Due(%d) is %v, not %v", c.now, l, want)
		}
		hold(t, h, m)
		if l := h.Due(c.now); len(l) != 0 {
			t.Errorf("Due(%d) once more is %v", c.now, l)
		}
		hold(t, h, m)
	}
}

// P10.1: a time that goes back is a time like others.
func TestDueGoesBack(t *testing.T) {
	h := heapOf(expiry.Item{Time: 8, Key: "h"}, expiry.Item{Time: 3, Key: "c"})
	m := model{{Time: 8, Key: "h"}, {Time: 3, Key: "c"}}
	holdDue(t, h, &m, 5)
	h.Push(expiry.Item{Time: 2, Key: "b"})
	m = append(m, expiry.Item{Time: 2, Key: "b"})
	for _, now := range []uint64{1, 2, 0, 7, 8} {
		holdDue(t, h, &m, now)
		hold(t, h, m)
	}
	holdEmpty(t, h)
}

// P10.1: asking changes nothing.
func TestAskedOnly(t *testing.T) {
	h := heapOf(expiry.Item{Time: 3, Key: "c"}, expiry.Item{Time: 2, Key: "b"}, expiry.Item{Time: 1, Key: "a"})
	want := h.Items()
	for range 3 {
		if l := h.Items(); !slices.Equal(l, want) {
			t.Errorf("Items are %v, not %v", l, want)
		}
		if n := h.Len(); n != 3 {
			t.Errorf("Len is %d, not 3", n)
		}
		if l := h.Due(0); len(l) != 0 {
			t.Errorf("Due(0) is %v", l)
		}
	}
}

// spoil writes over a list, and behind its end as far as its memory goes.
func spoil(l []expiry.Item) {
	l = l[:cap(l)]
	for i := range l {
		l[i] = expiry.Item{Time: 99, Key: "spoilt"}
	}
}

// P10.2: what is done to what was told changes no heap.
func TestToldIsNew(t *testing.T) {
	items := []expiry.Item{{Time: 6, Key: "f"}, {Time: 2, Key: "b"}, {Time: 4, Key: "d"}, {Time: 1, Key: "a"}, {Time: 8, Key: "h"}}
	h, m := heapOf(items...), model(slices.Clone(items))
	spoil(h.Items())
	hold(t, h, m)
	spoil(h.Due(2))
	m.due(2)
	hold(t, h, m)
	spoil(h.Due(3))
	spoil(h.Items())
	hold(t, h, m)
	h.Push(expiry.Item{Time: 5, Key: "e"})
	m = append(m, expiry.Item{Time: 5, Key: "e"})
	hold(t, h, m)
	spoil(h.Due(100))
	spoil(h.Items())
	holdEmpty(t, h)
	h.Push(items[0])
	hold(t, h, model{items[0]})
}

// P10.2: what is done to a heap changes nothing that was told.
func TestToldStays(t *testing.T) {
	h := heapOf(expiry.Item{Time: 1, Key: "a"}, expiry.Item{Time: 2, Key: "b"}, expiry.Item{Time: 3, Key: "c"}, expiry.Item{Time: 4, Key: "d"})
	all := h.Items()
	wantAll := slices.Clone(all)
	due := h.Due(2)
	wantDue := []expiry.Item{{Time: 1, Key: "a"}, {Time: 2, Key: "b"}}
	left := h.Items()
	wantLeft := slices.Clone(left)
	for n := range uint64(9) {
		h.Push(expiry.Item{Time: n, Key: "new"})
	}
	h.Pop()
	h.Due(5)
	if !slices.Equal(all, wantAll) || !slices.Equal(due, wantDue) || !slices.Equal(left, wantLeft) {
		t.Errorf("what was told became %v, %v and %v", all, due, left)
	}
}

// P10.1: no heap has anything of another.
func TestTwoHeaps(t *testing.T) {
	h, other := heapOf(expiry.Item{Time: 1, Key: "a"}), heapOf(expiry.Item{Time: 2, Key: "b"})
	h.Push(expiry.Item{Time: 3, Key: "c"})
	other.Due(9)
	hold(t, h, model{{Time: 1, Key: "a"}, {Time: 3, Key: "c"}})
	holdEmpty(t, other)
}
