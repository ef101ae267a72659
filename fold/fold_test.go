package fold_test

import (
	"math"
	"slices"
	"strconv"
	"strings"
	"testing"

	"hassock/api"
	"hassock/fold"
)

// bytewise are keys that rise by their bytes: not by their lengths, nor as numbers, nor as a dictionary has them.
var bytewise = []string{"", "\x00", "\x00\x00", "\x00a", " ", "10", "9", "B", "a", "a\x00", "a\x00b", "aa", "ab", "b", "\x7f", "\x80", "\u00e4", "\uffff", "\U00010000", "\xff", "\xff\xff"}

// P11.1: the chapter's example.
func TestExample(t *testing.T) {
	l, more := fold.Page([]string{"b", "a", "c"}, "a", false, 1)
	if !slices.Equal(l, []string{"b"}) || !more {
		t.Errorf("b, a, c behind a, 1 is %q, %t", l, more)
	}
}

// P11.1: a page by its place: behind a key that is there, between two, ahead of all, behind all, and from the first one on.
func TestPage(t *testing.T) {
	keys := []string{"d", "b", "f", "a", "e", "c", "b", "d", "d"}
	for _, c := range []struct {
		after string
		first bool
		many  int
		want  string
		more  bool
	}{
		{"", false, 3, "a b c", true},
		{"a", false, 3, "b c d", true},
		{"a\x00", false, 3, "b c d", true},
		{"b", false, 1, "c", true},
		{"c", false, 2, "d e", true},
		{"c", false, 3, "d e f", false},
		{"c", false, 4, "d e f", false},
		{"e", false, 1, "f", false},
		{"ee", false, 9, "f", false},
		{"f", false, 1, "", false},
		{"g", false, 1, "", false},
		{"\xff", false, 50, "", false},
		{"", true, 3, "a b c", true},
		{"", true, 5, "a b c d e", true},
		{"", true, 6, "a b c d e f", false},
		{"", true, 7, "a b c d e f", false},
		{"c", true, 1, "a", true},
		{"f", true, 6, "a b c d e f", false},
		{"z", true, 2, "a b", true},
	} {
		l, more := fold.Page(keys, c.after, c.first, c.many)
		if strings.Join(l, " ") != c.want || more != c.more {
			t.Errorf("Page(%q, %q, %t, %d) is %q, %t, not %s, %t", keys, c.after, c.first, c.many, l, more, c.want, c.more)
		}
		holdPage(t, keys, c.after, c.first, c.many)
	}
}

// P11.1: below 0 it is as with 0: no key, and more of them just where one would be told.
func TestPageOfNone(t *testing.T) {
	for _, many := range []int{0, -1, -2, -50, math.MinInt64, math.MinInt64 + 1} {
		for _, c := range []struct {
			keys  []string
			after string
			first bool
			more  bool
		}{
			{nil, "", true, false},
			{nil, "", false, false},
			{[]string{}, "a", false, false},
			{[]string{"b", "a"}, "", true, true},
			{[]string{"b", "a"}, "", false, true},
			{[]string{"b", "a"}, "a", false, true},
			{[]string{"b", "a"}, "b", false, false},
			{[]string{"b", "a"}, "b", true, true},
			{[]string{""}, "", false, false},
			{[]string{""}, "", true, true},
		} {
			l, more := fold.Page(c.keys, c.after, c.first, many)
			if len(l) != 0 || more != c.more {
				t.Errorf("Page(%q, %q, %t, %d) is %q, %t, not nothing, %t", c.keys, c.after, c.first, many, l, more, c.more)
			}
		}
	}
}

// P11.1: a page may have as many keys as there are, and any number more is as that.
func TestPageOfMany(t *testing.T) {
	keys := []string{"c", "a", "b", "a"}
	for _, many := range []int{3, 4, api.MaxPage, math.MaxInt32 + 1, math.MaxInt64 - 1, math.MaxInt64} {
		for _, first := range []bool{true, false} {
			l, more := fold.Page(keys, "", first, many)
			if !slices.Equal(l, []string{"a", "b", "c"}) || more {
				t.Errorf("a page of %d (first %t) is %q, %t", many, first, l, more)
			}
		}
	}
	var long []string
	for i := range 1000 {
		long = append(long, strconv.Itoa(9999-i))
	}
	for _, many := range []int{api.MaxPage - 1, api.MaxPage, api.MaxPage + 1, 999, 1000, 1001} {
		l, more := fold.Page(long, "", true, many)
		if len(l) != min(many, 1000) || more != (many < 1000) {
			t.Errorf("a page of %d of 1000 keys has %d, %t", many, len(l), more)
		}
		for i, key := range l {
			if key != strconv.Itoa(9000+i) {
				t.Fatalf("%q is told at %d", key, i)
			}
		}
	}
}

// P11.1: there are no keys at all.
func TestPageOfNoKeys(t *testing.T) {
	for _, keys := range [][]string{nil, {}} {
		for _, first := range []bool{true, false} {
			for _, after := range []string{"", "a"} {
				if l, more := fold.Page(keys, after, first, 5); len(l) != 0 || more {
					t.Errorf("a page of no keys behind %q (first %t) is %q, %t", after, first, l, more)
				}
			}
		}
	}
}

// P11.1: a key that is there twice is told once, and is no reason to tell of more.
func TestPageOfAlike(t *testing.T) {
	keys := []string{"b", "a", "b", "a", "a", "b"}
	for _, c := range []struct {
		after string
		first bool
		many  int
		want  []string
		more  bool
	}{
		{"", true, 1, []string{"a"}, true},
		{"", true, 2, []string{"a", "b"}, false},
		{"", true, 6, []string{"a", "b"}, false},
		{"", false, 2, []string{"a", "b"}, false},
		{"a", false, 1, []string{"b"}, false},
		{"a", false, 0, nil, true},
		{"b", false, 1, nil, false},
	} {
		l, more := fold.Page(keys, c.after, c.first, c.many)
		if !slices.Equal(l, c.want) || more != c.more {
			t.Errorf("Page(%q, %q, %t, %d) is %q, %t, not %q, %t", keys, c.after, c.first, c.many, l, more, c.want, c.more)
		}
	}
	if l, more := fold.Page([]string{"", "", ""}, "z", true, 1); !slices.Equal(l, []string{""}) || more {
		t.Errorf("a page of the empty key is %q, %t", l, more)
	}
}

// P11.1: the empty key is a key like others: told with first alone, as none is lesser.
func TestPageOfTheEmptyKey(t *testing.T) {
	keys := []string{"a", "", "b"}
	if l, more := fold.Page(keys, "", true, 2); !slices.Equal(l, []string{"", "a"}) || !more {
		t.Errorf("from the first one on it is %q, %t", l, more)
	}
	if l, more := fold.Page(keys, "", false, 2); !slices.Equal(l, []string{"a", "b"}) || more {
		t.Errorf("behind the empty key it is %q, %t", l, more)
	}
}

// P11.1: keys rise by their bytes, in whatever order they are handed in.
func TestPageByBytes(t *testing.T) {
	back := slices.Clone(bytewise)
	slices.Reverse(back)
	for turn := range bytewise {
		for _, from := range [][]string{bytewise, back} {
			keys := slices.Concat(from[turn:], from[:turn], from[:turn])
			if l, more := fold.Page(keys, "a", true, len(bytewise)); !slices.Equal(l, bytewise) || more {
				t.Errorf("all of %q are %q, %t", keys, l, more)
			}
			for at, after := range bytewise {
				l, more := fold.Page(keys, after, false, 3)
				behind := bytewise[at+1:]
				if !slices.Equal(l, behind[:min(3, len(behind))]) || more != (len(behind) > 3) {
					t.Errorf("3 of %q behind %q are %q, %t", keys, after, l, more)
				}
			}
		}
	}
}

// P11.1: each order of six keys, some of them alike, at each number and behind each key.
func TestEachOrder(t *testing.T) {
	eachOrder([]string{"b", "a", "b", "", "d", "ab"}, 0, func(keys []string) {
		for many := -1; many <= 7; many++ {
			holdPage(t, keys, "b", true, many)
			for _, after := range []string{"", "a", "aa", "ab", "b", "c", "d", "e"} {
				holdPage(t, keys, after, false, many)
			}
		}
	})
}

// eachOrder calls do with the keys from a place on in each order.
func eachOrder(keys []string, from int, do func(keys []string)) {
	if from == len(keys) {
		do(keys)
		return
	}
	for i := from; i < len(keys); i++ {
		keys[from], keys[i] = keys[i], keys[from]
		eachOrder(keys, from+1, do)
		keys[from], keys[i] = keys[i], keys[from]
	}
}

// P11.1: a key's place, and where one would be that isn't there: ahead of all, between two, behind all.
func TestFind(t *testing.T) {
	for _, c := range []struct {
		keys []string
		key  string
		at   int
		is   bool
	}{
		{nil, "", 0, false},
		{nil, "a", 0, false},
		{[]string{}, "a", 0, false},
		{[]string{""}, "", 0, true},
		{[]string{""}, "a", 1, false},
		{[]string{"a"}, "", 0, false},
		{[]string{"a"}, "a", 0, true},
		{[]string{"a"}, "a\x00", 1, false},
		{[]string{"a"}, "A", 0, false},
		{[]string{"a", "c"}, "a", 0, true},
		{[]string{"a", "c"}, "b", 1, false},
		{[]string{"a", "c"}, "c", 1, true},
		{[]string{"a", "c"}, "d", 2, false},
		{[]string{"a", "c", "e"}, "", 0, false},
		{[]string{"a", "c", "e"}, "c", 1, true},
		{[]string{"a", "c", "e"}, "d", 2, false},
		{[]string{"a", "c", "e"}, "e", 2, true},
		{[]string{"a", "c", "e"}, "ee", 3, false},
	} {
		if at, is := fold.Find(c.keys, c.key); at != c.at || is != c.is {
			t.Errorf("Find(%q, %q) is %d, %t, not %d, %t", c.keys, c.key, at, is, c.at, c.is)
		}
	}
}

// P11.1: each key's place, and that behind it, among the first ones of any number.
func TestFindByBytes(t *testing.T) {
	for count := range len(bytewise) + 1 {
		keys := bytewise[:count]
		for at, key := range bytewise {
			want, wantIs := min(at, count), at < count
			if got, is := fold.Find(keys, key); got != want || is != wantIs {
				t.Errorf("Find(%q, %q) is %d, %t, not %d, %t", keys, key, got, is, want, wantIs)
			}
		}
	}
	for at, key := range bytewise {
		keys := slices.Delete(slices.Clone(bytewise), at, at+1)
		if got, is := fold.Find(keys, key); got != at || is {
			t.Errorf("Find(%q, %q) is %d, %t, not %d, false", keys, key, got, is, at)
		}
	}
}

// P11.1: what is put where Find tells rises again.
func TestPutWhereFound(t *testing.T) {
	eachOrder([]string{"b", "a", "", "d", "ab", "c"}, 0, func(keys []string) {
		var l []string
		for _, key := range slices.Concat(keys, keys) {
			if at, is := fold.Find(l, key); !is {
				l = slices.Insert(l, at, key)
			}
		}
		if !slices.Equal(l, []string{"", "a", "ab", "b", "c", "d"}) {
			t.Fatalf("%q, put where found, are %q", keys, l)
		}
	})
}

// P1: the calls end, and don't panic, also at keys that don't rise.
func TestFindAmongAny(t *testing.T) {
	eachOrder([]string{"b", "a", "b", "", "d"}, 0, func(keys []string) {
		for _, key := range []string{"", "a", "b", "c", "z"} {
			was := slices.Clone(keys)
			if at, _ := fold.Find(keys, key); at < 0 || at > len(keys) {
				t.Errorf("Find(%q, %q) is %d", keys, key, at)
			}
			if !slices.Equal(keys, was) {
				t.Fatalf("the keys %q became %q", was, keys)
			}
		}
	})
}

// spoil writes over a list, and behind its end as far as its memory goes.
func spoil(l []string) {
	l = l[:cap(l)]
	for i := range l {
		l[i] = "spoilt"
	}
}

// P11.2: keys are as they were, and what lies behind them in their memory too, also where they rise already.
func TestHandedInStays(t *testing.T) {
	for _, was := range [][]string{{"c", "a", "b", "a", "z", "y"}, {"a", "b", "c", "d", "z", "y"}, {"a", "a", "a", "a", "z", "y"}} {
		for _, first := range []bool{true, false} {
			for many := -1; many <= 5; many++ {
				all := slices.Clone(was)
				l, _ := fold.Page(all[:4], "a", first, many)
				if !slices.Equal(all, was) {
					t.Fatalf("%q became %q", was, all)
				}
				spoil(l)
				if !slices.Equal(all, was) {
					t.Fatalf("%q became %q, as what was told was written over", was, all)
				}
			}
		}
	}
}

// P11.2: what was told stays, whatever is done to the keys, or to another page.
func TestToldStays(t *testing.T) {
	keys := []string{"a", "b", "c"}
	all, _ := fold.Page(keys, "", true, 3)
	some, _ := fold.Page(keys, "a", false, 1)
	again, _ := fold.Page(keys, "", true, 3)
	spoil(keys)
	spoil(again)
	if !slices.Equal(all, []string{"a", "b", "c"}) || !slices.Equal(some, []string{"b"}) {
		t.Errorf("what was told became %q and %q", all, some)
	}
}

// P11.2: nothing is kept from call to call.
func TestNothingIsKept(t *testing.T) {
	fold.Page([]string{"x", "y"}, "", true, 1)
	fold.Find([]string{"x", "y"}, "y")
	if l, more := fold.Page([]string{"a"}, "", true, 5); !slices.Equal(l, []string{"a"}) || more {
		t.Errorf("the page is %q, %t", l, more)
	}
	if at, is := fold.Find([]string{"a"}, "y"); at != 1 || is {
		t.Errorf("the place is %d, %t", at, is)
	}
}

// P11.3: page behind page tells all, rising, each once, at each number.
func TestPageBehindPage(t *testing.T) {
	turned := slices.Concat(bytewise[9:], bytewise, bytewise[:15])
	for many := 1; many <= len(bytewise)+1; many++ {
		holdPages(t, bytewise, many)
		holdPages(t, turned, many)
		holdPages(t, nil, many)
		holdPages(t, []string{""}, many)
		holdPages(t, []string{"a", "a"}, many)
	}
}

// P11.3: a key that came between two pages is told, if it is behind what was told; else it isn't.
func TestPagesOfKeysThatChange(t *testing.T) {
	l, more := fold.Page([]string{"d", "b", "f"}, "", true, 2)
	if !slices.Equal(l, []string{"b", "d"}) || !more {
		t.Fatalf("the first page is %q, %t", l, more)
	}
	l, more = fold.Page([]string{"a", "e", "b", "f", "c"}, l[1], false, 2)
	if !slices.Equal(l, []string{"e", "f"}) || more {
		t.Errorf("the second page is %q, %t", l, more)
	}
}
