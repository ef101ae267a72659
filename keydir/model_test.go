package keydir_test

import (
	"hash/fnv"
	"math/rand"
	"slices"
	"strconv"
	"testing"

	"hassock/keydir"
)

// homeOf is a key's home among so many places, by the library's hash.
func homeOf(key string, places int) int {
	h := fnv.New64a()
	h.Write([]byte(key))
	return int(h.Sum64() % uint64(places))
}

// model is a table as the chapter tells it, written apart: a pointer at each place, nil where it is free.
type model []*keydir.Entry

// newModel is one without keys.
func newModel() model { return make(model, 8) }

// at is where a key lies, or -1: all places are looked at.
func (m model) at(key string) int {
	return slices.IndexFunc(m, func(e *keydir.Entry) bool { return e != nil && e.Key == key })
}

// lay puts an entry at its home, or the first free place behind it.
func (m model) lay(e *keydir.Entry) {
	at := homeOf(e.Key, len(m))
	for m[at] != nil {
		at++
		if at == len(m) {
			at = 0
		}
	}
	m[at] = e
}

func (m model) count() int {
	n := 0
	for _, e := range m {
		if e != nil {
			n++
		}
	}
	return n
}

func (m *model) put(e keydir.Entry) {
	if at := m.at(e.Key); at >= 0 {
		(*m)[at] = &e
		return
	}
	if 4*(m.count()+1) > 3*len(*m) {
		old := *m
		*m = make(model, 2*len(old))
		for _, other := range old {
			if other != nil {
				m.lay(other)
			}
		}
	}
	m.lay(&e)
}

func (m model) get(key string) (keydir.Entry, bool) {
	at := m.at(key)
	if at < 0 {
		return keydir.Entry{}, false
	}
	return *m[at], true
}

// delete takes one out, and lays each one behind it, up to the next free place, as if it were new.
func (m model) delete(key string) bool {
	at := m.at(key)
	if at < 0 {
		return false
	}
	m[at] = nil
	for at = (at + 1) % len(m); m[at] != nil; at = (at + 1) % len(m) {
		e := m[at]
		m[at] = nil
		m.lay(e)
	}
	return true
}

func (m model) places() []string {
	var l []string
	for _, e := range m {
		if e == nil {
			l = append(l, "")
		} else {
			l = append(l, strconv.Itoa(len(e.Key))+":"+e.Key)
		}
	}
	return l
}

// entries are all by rising keys, each put ahead of the first one that is greater.
func (m model) entries() []keydir.Entry {
	var l []keydir.Entry
	for _, e := range m {
		if e == nil {
			continue
		}
		at := 0
		for at < len(l) && l[at].Key < e.Key {
			at++
		}
		l = slices.Insert(l, at, *e)
	}
	return l
}

// hold holds all that a table tells against a model.
func hold(t *testing.T, x *keydir.Table, m model) {
	t.Helper()
	if n := x.Len(); n != m.count() {
		t.Fatalf("Len is %d, not %d", n, m.count())
	}
	if l, want := x.Places(), m.places(); !slices.Equal(l, want) {
		t.Fatalf("Places are %q, not %q", l, want)
	}
	if l, want := x.Entries(), m.entries(); !slices.Equal(l, want) {
		t.Fatalf("Entries are %v, not %v", l, want)
	}
}

// holdGet holds what a table tells of a key against a model.
func holdGet(t *testing.T, x *keydir.Table, m model, key string) {
	t.Helper()
	e, is := x.Get(key)
	if want, wantIs := m.get(key); e != want || is != wantIs {
		t.Fatalf("Get(%q) is %v, %t, not %v, %t", key, e, is, want, wantIs)
	}
}

// holdNoGap holds P9.3 by what Places tells alone: no free place from a key's home to it, each key once, and no more of them than may be.
func holdNoGap(t *testing.T, x *keydir.Table) {
	t.Helper()
	l := x.Places()
	seen := map[string]bool{}
	for at, p := range l {
		if p == "" {
			continue
		}
		if seen[p] {
			t.Fatalf("%q is there twice: %q", p, l)
		}
		seen[p] = true
		for from := homeOf(keyAt(t, p), len(l)); from != at; from = (from + 1) % len(l) {
			if l[from] == "" {
				t.Fatalf("place %d is free, ahead of %q: %q", from, p, l)
			}
		}
	}
	if len(l) < 8 || len(l)&(len(l)-1) != 0 || 4*len(seen) > 3*len(l) || len(seen) != x.Len() {
		t.Fatalf("%d keys, Len %d, in %d places", len(seen), x.Len(), len(l))
	}
}

// keyAt is the key of what Places tells of a place.
func keyAt(t *testing.T, p string) string {
	t.Helper()
	for at := range len(p) {
		if p[at] == ':' {
			if n, err := strconv.Atoi(p[:at]); err != nil || n != len(p)-at-1 {
				break
			}
			return p[at+1:]
		}
	}
	t.Fatalf("%q is no place's text", p)
	return ""
}

// randomKeys are so many different keys, some of them empty, long, or of any bytes.
func randomKeys(r *rand.Rand, n int) []string {
	l := []string{"", "\x00", ":", "1:a"}
	for len(l) < n {
		b := make([]byte, r.Intn(12))
		r.Read(b)
		if key := string(b); !slices.Contains(l, key) {
			l = append(l, key)
		}
	}
	return l[:n]
}

// randomEntry is one of a key, all its other fields are any.
func randomEntry(r *rand.Rand, key string) keydir.Entry {
	e := keydir.Entry{Key: key, Version: r.Uint64(), Expiry: r.Uint64(), Size: int(r.Uint64())}
	e.Spot.Seg, e.Spot.At, e.Spot.Len = int(r.Uint64()), r.Intn(100), -r.Intn(100)
	return e
}

// P9.1, P9.2, P9.3
func TestRandomScripts(t *testing.T) {
	r := rand.New(rand.NewSource(9))
	for round := range 400 {
		keys := randomKeys(r, 1+r.Intn(60))
		puts := 1 + r.Intn(9) // of ten steps
		x, m := keydir.New(), newModel()
		for range 120 {
			key := keys[r.Intn(len(keys))]
			if r.Intn(10) < puts {
				e := randomEntry(r, key)
				x.Put(e)
				m.put(e)
			} else if is, want := x.Delete(key), m.delete(key); is != want {
				t.Fatalf("round %d: Delete(%q) is %t, not %t", round, key, is, want)
			}
			hold(t, x, m)
			holdGet(t, x, m, keys[r.Intn(len(keys))])
			holdNoGap(t, x)
		}
	}
}

// P9.1, P9.2: a table that is filled and emptied again and again.
func TestFilledAndEmptied(t *testing.T) {
	r := rand.New(rand.NewSource(10))
	keys := randomKeys(r, 400)
	x, m := keydir.New(), newModel()
	for round := range 4 {
		r.Shuffle(len(keys), func(i, j int) { keys[i], keys[j] = keys[j], keys[i] })
		for i, key := range keys {
			e := randomEntry(r, key)
			x.Put(e)
			m.put(e)
			if i%20 == 0 {
				hold(t, x, m)
			}
		}
		hold(t, x, m)
		r.Shuffle(len(keys), func(i, j int) { keys[i], keys[j] = keys[j], keys[i] })
		for i, key := range keys {
			if !x.Delete(key) || !m.delete(key) {
				t.Fatalf("round %d: %q isn't there", round, key)
			}
			if i%20 == 0 {
				hold(t, x, m)
				holdNoGap(t, x)
			}
		}
		hold(t, x, m)
	}
}

// P9.1, P9.2, P9.3: six keys of each choice of homes among the 8 places, one of which is taken out.
func TestEachChoiceOfHomes(t *testing.T) {
	keys := keysByHomes(8, 6)
	for choice := range 8 * 8 * 8 * 8 * 8 * 8 {
		var chosen []string
		for i, rest := 0, choice; i < 6; i, rest = i+1, rest/8 {
			chosen = append(chosen, keys[rest%8][i])
		}
		x, m := keydir.New(), newModel()
		for i, key := range chosen {
			e := keydir.Entry{Key: key, Size: i}
			x.Put(e)
			m.put(e)
		}
		gone := chosen[choice%6]
		if !x.Delete(gone) || !m.delete(gone) {
			t.Fatalf("%q of %q isn't there", gone, chosen)
		}
		hold(t, x, m)
		for _, key := range chosen {
			holdGet(t, x, m, key)
		}
	}
}

// keysByHomes are, of each home among so many places, so many keys, by rising numbers.
func keysByHomes(places, each int) [][]string {
	l := make([][]string, places)
	for n, full := 0, 0; full < places; n++ {
		key := strconv.Itoa(n)
		home := homeOf(key, places)
		if len(l[home]) == each {
			continue
		}
		l[home] = append(l[home], key)
		if len(l[home]) == each {
			full++
		}
	}
	return l
}
