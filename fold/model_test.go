package fold_test

import (
	"math/rand"
	"slices"
	"testing"

	"hassock/fold"
)

// isGreater tells whether a key is greater than another, byte by byte.
func isGreater(x, y string) bool {
	for i := 0; i < len(x) && i < len(y); i++ {
		if x[i] != y[i] {
			return x[i] > y[i]
		}
	}
	return len(x) > len(y)
}

// leastBehind is the least key behind one (with first: of all), looked for among all; false, if there is none.
func leastBehind(keys []string, after string, first bool) (string, bool) {
	least, is := "", false
	for _, key := range keys {
		if (first || isGreater(key, after)) && (!is || isGreater(least, key)) {
			least, is = key, true
		}
	}
	return least, is
}

// modelPage is a page by the chapter's words, written apart: one least key behind the other.
func modelPage(keys []string, after string, first bool, many int) ([]string, bool) {
	var l []string
	for {
		key, is := leastBehind(keys, after, first)
		if !is || len(l) >= many {
			return l, is
		}
		l = append(l, key)
		after, first = key, false
	}
}

// modelFind is a place by the chapter's words, written apart: as many keys are lesser.
func modelFind(keys []string, key string) (int, bool) {
	at, is := 0, false
	for _, k := range keys {
		if isGreater(key, k) {
			at++
		}
		is = is || k == key
	}
	return at, is
}

// holdPage holds a page against the model's, and that the keys are as they were.
func holdPage(t *testing.T, keys []string, after string, first bool, many int) {
	t.Helper()
	was := slices.Clone(keys)
	l, more := fold.Page(keys, after, first, many)
	if want, wantMore := modelPage(was, after, first, many); !slices.Equal(l, want) || more != wantMore {
		t.Fatalf("Page(%q, %q, %t, %d) is %q, %t, not %q, %t", was, after, first, many, l, more, want, wantMore)
	}
	if !slices.Equal(keys, was) {
		t.Fatalf("the keys %q became %q", was, keys)
	}
}

// holdFind holds a place against the model's, and that the keys are as they were.
func holdFind(t *testing.T, keys []string, key string) {
	t.Helper()
	was := slices.Clone(keys)
	at, is := fold.Find(keys, key)
	if want, wantIs := modelFind(was, key); at != want || is != wantIs {
		t.Fatalf("Find(%q, %q) is %d, %t, not %d, %t", was, key, at, is, want, wantIs)
	}
	if !slices.Equal(keys, was) {
		t.Fatalf("the keys %q became %q", was, keys)
	}
}

// holdPages goes through all keys by pages of so many, and holds that they are told, rising, each once.
func holdPages(t *testing.T, keys []string, many int) {
	t.Helper()
	want, _ := modelPage(keys, "", true, len(keys))
	var told []string
	after, first := "", true
	for range len(keys) + 1 {
		l, more := fold.Page(keys, after, first, many)
		told = append(told, l...)
		if !more {
			break
		}
		if len(l) != many {
			t.Fatalf("a page behind %q of %q has %d keys, not %d, and there are more", after, keys, len(l), many)
		}
		after, first = l[many-1], false
	}
	if !slices.Equal(told, want) {
		t.Fatalf("pages of %d of %q tell %q, not %q", many, keys, told, want)
	}
}

// randomKey is one of few, or of any bytes.
func randomKey(r *rand.Rand) string {
	if r.Intn(3) > 0 {
		return []string{"", "a", "ab", "b", "b\x00", "ba"}[r.Intn(6)]
	}
	b := make([]byte, r.Intn(5))
	r.Read(b)
	return string(b)
}

// randomKeys are at most so many, in any order, some maybe twice.
func randomKeys(r *rand.Rand, most int) []string {
	l := make([]string, r.Intn(most+1))
	for i := range l {
		l[i] = randomKey(r)
	}
	return l
}

// P11.1, P11.2
func TestRandomPages(t *testing.T) {
	r := rand.New(rand.NewSource(11))
	for range 20000 {
		keys := randomKeys(r, 12)
		after := randomKey(r)
		if len(keys) > 0 && r.Intn(2) == 0 {
			after = keys[r.Intn(len(keys))]
		}
		holdPage(t, keys, after, r.Intn(4) == 0, r.Intn(15)-1)
	}
}

// P11.1, P11.2
func TestRandomFinds(t *testing.T) {
	r := rand.New(rand.NewSource(12))
	for range 2000 {
		keys, _ := modelPage(randomKeys(r, 20), "", true, 20)
		for _, key := range slices.Concat(keys, randomKeys(r, 20)) {
			holdFind(t, keys, key)
		}
	}
}

// P11.3
func TestRandomPageBehindPage(t *testing.T) {
	r := rand.New(rand.NewSource(13))
	for range 2000 {
		keys := randomKeys(r, 30)
		for _, many := range []int{1, 2, 3, 7, 50} {
			holdPages(t, keys, many)
		}
	}
}
