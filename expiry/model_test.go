package expiry_test

import (
	"math"
	"math/rand"
	"slices"
	"testing"

	"hassock/expiry"
)

// model is what a heap has, written apart: its items as they were pushed, of which the least one is looked for among all.
type model []expiry.Item

// isAhead tells whether an item ends ahead of another, by the chapter's words.
func isAhead(x, y expiry.Item) bool {
	return x.Time < y.Time || x.Time == y.Time && x.Key < y.Key
}

// least is the place of the least item, or -1.
func (m model) least() int {
	at := -1
	for i, x := range m {
		if at < 0 || isAhead(x, m[at]) {
			at = i
		}
	}
	return at
}

func (m *model) pop() (expiry.Item, bool) {
	at := m.least()
	if at < 0 {
		return expiry.Item{}, false
	}
	x := (*m)[at]
	*m = slices.Delete(*m, at, at+1)
	return x, true
}

func (m *model) due(now uint64) []expiry.Item {
	var l []expiry.Item
	for at := m.least(); at >= 0 && (*m)[at].Time <= now; at = m.least() {
		x, _ := m.pop()
		l = append(l, x)
	}
	return l
}

// rising are all, each behind those that are no greater.
func (m model) rising() []expiry.Item {
	var l []expiry.Item
	rest := slices.Clone(m)
	for len(rest) > 0 {
		x, _ := rest.pop()
		l = append(l, x)
	}
	return l
}

// hold holds all that a heap tells of its items against a model: how many, which, and that they lie as a heap.
func hold(t *testing.T, h *expiry.Heap, m model) {
	t.Helper()
	if n := h.Len(); n != len(m) {
		t.Fatalf("Len is %d, not %d", n, len(m))
	}
	l := h.Items()
	holdPlaces(t, l)
	if got, want := model(l).rising(), m.rising(); !slices.Equal(got, want) {
		t.Fatalf("Items are, put in order, %v, not %v", got, want)
	}
}

// holdPlaces holds that no item is greater than the two below it.
func holdPlaces(t *testing.T, l []expiry.Item) {
	t.Helper()
	for i := range l {
		for _, below := range []int{2*i + 1, 2*i + 2} {
			if below < len(l) && isAhead(l[below], l[i]) {
				t.Fatalf("%v at %d is greater than %v at %d: %v", l[i], i, l[below], below, l)
			}
		}
	}
}

// holdPop pops from both.
func holdPop(t *testing.T, h *expiry.Heap, m *model) {
	t.Helper()
	x, is := h.Pop()
	if want, wantIs := m.pop(); x != want || is != wantIs {
		t.Fatalf("Pop is %v, %t, not %v, %t", x, is, want, wantIs)
	}
}

// holdDue asks both for what is due.
func holdDue(t *testing.T, h *expiry.Heap, m *model, now uint64) {
	t.Helper()
	if l, want := h.Due(now), m.due(now); !slices.Equal(l, want) {
		t.Fatalf("Due(%d) is %v, not %v", now, l, want)
	}
}

// randomItem is one of few times, or of any, with a key of few, or of any bytes.
func randomItem(r *rand.Rand) expiry.Item {
	x := expiry.Item{Time: uint64(r.Intn(6)), Key: []string{"", "a", "ab", "b"}[r.Intn(4)]}
	if r.Intn(4) == 0 {
		x.Time = []uint64{r.Uint64(), 1<<63 - 1, 1 << 63, math.MaxUint64}[r.Intn(4)]
	}
	if r.Intn(4) == 0 {
		b := make([]byte, r.Intn(5))
		r.Read(b)
		x.Key = string(b)
	}
	return x
}

// P10.1, P10.3
func TestRandomScripts(t *testing.T) {
	r := rand.New(rand.NewSource(10))
	for range 600 {
		h, m := expiry.New(), model{}
		pushes := 1 + r.Intn(9) // of ten steps
		for range 100 {
			switch {
			case r.Intn(10) < pushes:
				x := randomItem(r)
				h.Push(x)
				m = append(m, x)
			case r.Intn(5) == 0:
				holdDue(t, h, &m, randomItem(r).Time)
			default:
				holdPop(t, h, &m)
			}
			hold(t, h, m)
		}
	}
}

// P10.1, P10.3: a heap of many items that is filled and emptied again and again.
func TestFilledAndEmptied(t *testing.T) {
	r := rand.New(rand.NewSource(11))
	h := expiry.New()
	for range 3 {
		var m model
		for range 500 {
			x := randomItem(r)
			h.Push(x)
			m = append(m, x)
		}
		hold(t, h, m)
		for now := range uint64(4) {
			holdDue(t, h, &m, now)
			hold(t, h, m)
		}
		for len(m) > 0 {
			holdPop(t, h, &m)
			if len(m)%50 == 0 {
				hold(t, h, m)
			}
		}
		holdPop(t, h, &m)
	}
}

// P10.1, P10.3: each order in which seven items, some of them alike, may be pushed.
func TestEachOrder(t *testing.T) {
	items := []expiry.Item{{Time: 3, Key: "c"}, {Time: 5, Key: "b"}, {Time: 5, Key: "a"}, {Time: 5, Key: "a"}, {Time: 0, Key: "z"}, {Time: 4}, {Time: 9, Key: "a"}}
	eachOrder(items, 0, func() {
		h, m := expiry.New(), model{}
		for _, x := range items {
			h.Push(x)
			m = append(m, x)
			holdPlaces(t, h.Items())
		}
		holdPop(t, h, &m)
		hold(t, h, m)
		holdDue(t, h, &m, 4)
		hold(t, h, m)
		for len(m) > 0 {
			holdPop(t, h, &m)
			holdPlaces(t, h.Items())
		}
		holdPop(t, h, &m)
	})
}

// eachOrder calls do with the items from a place on in each order.
func eachOrder(items []expiry.Item, from int, do func()) {
	if from == len(items) {
		do()
		return
	}
	for i := from; i < len(items); i++ {
		items[from], items[i] = items[i], items[from]
		eachOrder(items, from+1, do)
		items[from], items[i] = items[i], items[from]
	}
}
