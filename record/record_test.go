package record_test

import (
	"bytes"
	"fmt"
	"math"
	"math/rand"
	"reflect"
	"slices"
	"strings"
	"testing"

	"hassock/api"
	"hassock/frame"
	"hassock/record"
)

// put writes records that must be written.
func put(t *testing.T, l ...api.Record) []byte {
	t.Helper()
	b, err := record.Put(l)
	if err != nil {
		t.Fatalf("Put of %d records: %v", len(l), err)
	}
	return b
}

// gets tells of bytes that they must have just these records.
func gets(t *testing.T, what string, b []byte, want ...api.Record) {
	t.Helper()
	l, err := record.Get(b)
	if err != nil || !slices.Equal(l, want) {
		t.Errorf("%s: %+v and %v, not %+v", what, l, err, want)
	}
}

// malformed tells of bytes that they must have none, with nothing told beside the code.
func malformed(t *testing.T, what string, b []byte) {
	t.Helper()
	l, err := record.Get(b)
	if itself(err) != api.ErrForm || len(l) != 0 {
		t.Errorf("%s: %+v and %v, not ErrForm", what, l, err)
	}
}

// may tells of a record that it may be, or may not: by May, by Cost, by Put of it alone and with others around it.
func may(t *testing.T, what string, r api.Record, want bool) {
	t.Helper()
	if record.May(r) != want {
		t.Errorf("%s: May is %v", what, !want)
	}
	if cost := record.Cost(r); (cost > 0) != want || cost < 0 {
		t.Errorf("%s: Cost is %d", what, cost)
	}
	code, other := api.Code(0), least(api.RDrop)
	if !want {
		code = api.ErrArg
	}
	for _, l := range [][]api.Record{{r}, {r, other}, {other, r}, {other, r, other}} {
		b, err := record.Put(l)
		if itself(err) != code || (len(b) > 0) != want {
			t.Errorf("%s: Put with %d others is %d bytes and %v", what, len(l)-1, len(b), err)
		}
		if want && !bytes.Equal(b, toldAll(l...)) {
			t.Errorf("%s: Put with %d others is %v, not %v", what, len(l)-1, b, toldAll(l...))
		}
	}
}

// P6.1
func TestMayOfEachKind(t *testing.T) {
	for kind := api.RBucket; kind <= api.RGen; kind++ {
		may(t, "least "+kindNames[kind], least(kind), true)
		may(t, "full "+kindNames[kind], full(kind), true)
		may(t, "greatest "+kindNames[kind], greatest(kind), true)
	}
	for _, r := range records() {
		may(t, fmt.Sprintf("%+v", r), r, true)
	}
}

// P6.1: also not where the kind's lowest byte is that of one.
func TestMayOfNoKind(t *testing.T) {
	may(t, "nothing at all", api.Record{}, false)
	for _, no := range []int{math.MinInt, -256, -255, -249, -7, -2, -1, 0, 8, 9, 127, 128, 255, 256, 65537, math.MaxInt} {
		for kind := api.RBucket; kind <= api.RGen; kind++ {
			r := least(kind)
			r.Kind = no
			may(t, fmt.Sprintf("kind %d, else %s", no, kindNames[kind]), r, false)
		}
		may(t, fmt.Sprintf("kind %d", no), api.Record{Kind: no, Gen: 1}, false)
	}
	for kind := api.RBucket; kind <= api.RGen; kind++ {
		for _, off := range []int{-512, -256, 256, 512, 1 << 16} {
			r := full(kind)
			r.Kind += off
			may(t, fmt.Sprintf("kind %d", r.Kind), r, false)
		}
	}
}

// P6.1: each field that a kind names may be set, and no other one.
func TestMayOfFieldsByKinds(t *testing.T) {
	for kind := api.RBucket; kind <= api.RGen; kind++ {
		for _, f := range fields() {
			for i, set := range f.sets {
				for _, r := range []api.Record{least(kind), full(kind), greatest(kind)} {
					set(&r)
					may(t, fmt.Sprintf("%s with %s set to its %d", kindNames[kind], f.name, i), r, namesField(kind, f.name))
				}
			}
		}
	}
}

// P6.1: the greatest and the least that a field can have are seen too, where it isn't named.
func TestMayOfOddFieldsThatAKindDoesNotName(t *testing.T) {
	for kind := api.RBucket; kind <= api.RGen; kind++ {
		if kind != api.RBucket {
			for _, n := range []int64{math.MinInt64, -1, 1<<40 + 1, math.MaxInt64} {
				for _, q := range []api.Quota{{Keys: n}, {Bytes: n}, {Budget: n}} {
					r := least(kind)
					r.Quota = q
					may(t, fmt.Sprintf("%s with %+v", kindNames[kind], q), r, false)
				}
			}
		}
		if kind != api.RToken {
			for _, n := range []int{math.MinInt, -1, 8, 256, 512, math.MaxInt} {
				r := least(kind)
				r.Rights = n
				may(t, fmt.Sprintf("%s with Rights %d", kindNames[kind], n), r, false)
			}
		}
	}
}

// P6.1: one at its end isn't seen for another one.
func TestMayOfTwoFieldsThatAKindDoesNotName(t *testing.T) {
	for kind := api.RBucket; kind <= api.RGen; kind++ {
		for _, f := range fields() {
			for _, g := range fields() {
				r := least(kind)
				f.sets[0](&r)
				g.sets[0](&r)
				want := namesField(kind, f.name) && namesField(kind, g.name)
				may(t, fmt.Sprintf("%s with %s and %s", kindNames[kind], f.name, g.name), r, want)
			}
		}
	}
}

// P6.1
func TestMayOfBucket(t *testing.T) {
	for kind := api.RBucket; kind <= api.RGen; kind++ {
		for _, n := range []int{math.MinInt, -256, -193, -64, -2, -1, 0, 1, 31, 32, 62, 63, 64, 65, 127, 128, 255, 256, 257, 319, 65536, math.MaxInt} {
			for _, r := range []api.Record{least(kind), full(kind)} {
				r.Bucket = n
				may(t, fmt.Sprintf("%s of bucket %d", kindNames[kind], n), r, n >= 0 && n <= 63)
			}
		}
	}
}

// P6.1
func TestMayOfGen(t *testing.T) {
	for kind := api.RBucket; kind <= api.RGen; kind++ {
		for _, n := range []uint32{0, 1, 2, 255, 256, 65536, 1 << 24, math.MaxInt32, 1 << 31, math.MaxUint32 - 1, math.MaxUint32} {
			for _, r := range []api.Record{least(kind), full(kind)} {
				r.Gen = n
				may(t, fmt.Sprintf("%s of Gen %d", kindNames[kind], n), r, n >= 1)
			}
		}
	}
}

// P6.1
func TestMayOfQuota(t *testing.T) {
	for _, n := range []int64{math.MinInt64, math.MinInt32, -2, -1, 0, 1, 255, math.MaxUint32, 1 << 32, 1<<40 - 1, 1 << 40, 1<<40 + 1, 1 << 41, 1 << 48, math.MaxInt64} {
		for _, was := range []api.Quota{{}, {Keys: 3, Bytes: 3, Budget: 3}, {Keys: 1 << 40, Bytes: 1 << 40, Budget: 1 << 40}} {
			for i := range 3 {
				r := full(api.RBucket)
				r.Quota = was
				*[]*int64{&r.Quota.Keys, &r.Quota.Bytes, &r.Quota.Budget}[i] = n
				may(t, fmt.Sprintf("%+v", r.Quota), r, n >= 0 && n <= 1<<40)
			}
		}
		r := full(api.RBucket)
		r.Quota = api.Quota{Keys: n, Bytes: n, Budget: n}
		may(t, fmt.Sprintf("all three of %d", n), r, n >= 0 && n <= 1<<40)
	}
}

// P6.1
func TestMayOfRights(t *testing.T) {
	for _, n := range []int{math.MinInt, -256, -255, -249, -2, -1, 0, 1, 2, 3, 4, 5, 6, 7, 8, 9, 15, 255, 256, 257, 263, 65537, math.MaxInt} {
		r := full(api.RToken)
		r.Rights = n
		may(t, fmt.Sprintf("rights %d", n), r, n >= 1 && n <= 7)
	}
}

// P6.1: bytes are counted, not letters.
func TestMayOfKey(t *testing.T) {
	for _, kind := range []int{api.RPut, api.RDel} {
		for _, n := range []int{0, 1, 2, 32, 63, 64, 65, 66, 127, 128, 255, 256, 257, 1000, 1001, 65535, 65536, 65537, 65600} {
			r := full(kind)
			r.Key = textOf(n)
			may(t, fmt.Sprintf("%s of a key of %d bytes", kindNames[kind], n), r, n >= 1 && n <= 64)
		}
		for _, n := range []int{32, 33} {
			r := full(kind)
			r.Key = strings.Repeat("\u00e9", n)
			may(t, fmt.Sprintf("%s of a key of %d letters of two bytes", kindNames[kind], n), r, n == 32)
		}
	}
}

// P6.1
func TestMayOfVal(t *testing.T) {
	for _, n := range []int{0, 1, 2, 64, 65, 255, 256, 257, 999, 1000, 1001, 1002, 1023, 1024, 65535, 65536, 65537, 66536} {
		r := full(api.RPut)
		r.Val = textOf(n)
		may(t, fmt.Sprintf("a value of %d bytes", n), r, n <= 1000)
	}
	for _, n := range []int{500, 501} {
		r := full(api.RPut)
		r.Val = strings.Repeat("\u00e9", n)
		may(t, fmt.Sprintf("a value of %d letters of two bytes", n), r, n == 500)
	}
}

// P6.1: texts may have any bytes.
func TestMayOfTextsOfAnyBytes(t *testing.T) {
	for _, s := range texts() {
		put, del, val := least(api.RPut), least(api.RDel), least(api.RPut)
		put.Key, del.Key, val.Val = s, s, s
		may(t, fmt.Sprintf("a put of %q", s), put, true)
		may(t, fmt.Sprintf("a deletion of %q", s), del, true)
		may(t, fmt.Sprintf("a value %q", s), val, true)
	}
}

// P6.1
func TestPutKnownRecords(t *testing.T) {
	for _, c := range []struct {
		r    api.Record
		want string
	}{
		{api.Record{Kind: api.RDrop, Bucket: 3, Gen: 1}, "\x02\x03\x01\x00\x00\x00"},
		{api.Record{Kind: api.RGen, Bucket: 63, Gen: math.MaxUint32}, "\x07\x3f\xff\xff\xff\xff"},
		{full(api.RBucket), "\x01\x29\x01\x02\x03\x04\x05\x06\x07\x08\x09\x00\x00\x00\x0a\x0b\x0c\x0d\x0e\x00\x00\x00\xf0\x10\x11\x12\x13\x00\x00\x00\x14\x15\x16\x17\x18\x19\x1a\x1b\x1c\x1d\x1e\x1f"},
		{full(api.RDrop), "\x02\x29\x01\x02\x03\x04"},
		{full(api.RPut), "\x03\x29\x01\x02\x03\x04\x28\x29\x2a\x2b\x2c\x2d\x2e\x2f\x30\x31\x32\x33\x34\x35\x36\x37\x03\x00key\x05\x00value"},
		{full(api.RDel), "\x04\x29\x01\x02\x03\x04\x28\x29\x2a\x2b\x2c\x2d\x2e\x2f\x03\x00key"},
		{full(api.RToken), "\x05\x29\x01\x02\x03\x04\x1c\x1d\x1e\x1f\x06\x20\x21\x22\x23\x24\x25\x26\x27"},
		{full(api.RRevoke), "\x06\x29\x01\x02\x03\x04\x1c\x1d\x1e\x1f"},
		{full(api.RGen), "\x07\x29\x01\x02\x03\x04"},
		{least(api.RPut), "\x03\x00\x01\x00\x00\x00\x00\x00\x00\x00\x00\x00\x00\x00\x00\x00\x00\x00\x00\x00\x00\x00\x01\x00k\x00\x00"},
	} {
		if b := put(t, c.r); string(b) != c.want {
			t.Errorf("Put of %+v is %q, not %q", c.r, b, c.want)
		}
		gets(t, "known bytes", []byte(c.want), c.r)
	}
}

// P6.1
func TestPutAsTold(t *testing.T) {
	for _, r := range records() {
		if b := put(t, r); !bytes.Equal(b, told(r)) {
			t.Errorf("Put of %+v is %v, not %v", r, b, told(r))
		}
	}
}

// P6.1
func TestPutOfNone(t *testing.T) {
	for _, l := range [][]api.Record{nil, {}, make([]api.Record, 0, 9), records()[:0]} {
		if b, err := record.Put(l); itself(err) != api.ErrArg || len(b) != 0 {
			t.Errorf("Put of none is %v and %v, not ErrArg", b, err)
		}
	}
}

// P6.1
func TestPutOfMany(t *testing.T) {
	all := records()
	for _, many := range []int{1, 2, 3, 7, 50, 100} {
		for from := 0; from+many <= len(all); from += many {
			l := all[from : from+many]
			if b := put(t, l...); !bytes.Equal(b, toldAll(l...)) {
				t.Errorf("Put of %d records from %d on isn't as told", many, from)
			}
		}
	}
	same := slices.Repeat([]api.Record{full(api.RDel)}, 100)
	if b := put(t, same...); !bytes.Equal(b, bytes.Repeat(told(same[0]), 100)) {
		t.Error("Put of one a hundred times isn't as told")
	}
}

// P6.1: one that may not be is seen wherever it is.
func TestPutWithOneThatMayNotBe(t *testing.T) {
	for at := range 9 {
		for _, no := range []api.Record{{}, {Kind: api.RDrop}, {Kind: api.RDrop, Gen: 1, Seq: 1}, {Kind: 8, Gen: 1}, {Kind: api.RPut, Gen: 1}} {
			l := slices.Repeat([]api.Record{full(api.RPut)}, 9)
			l[at] = no
			if b, err := record.Put(l); itself(err) != api.ErrArg || len(b) != 0 {
				t.Errorf("%+v at place %d: %d bytes and %v, not ErrArg", no, at, len(b), err)
			}
		}
	}
}

// ofSize are records that have so many bytes together, from 100 on.
func ofSize(size int) []api.Record {
	const most = 26 + 1 + 1000 // of one with a key of one byte
	var l []api.Record
	for size > 0 {
		take := min(size, most)
		if size > most && size < most+27 {
			take = size - 27
		}
		r := least(api.RPut)
		r.Val = textOf(take - 27)
		l = append(l, r)
		size -= take
	}
	return l
}

// P6.1, P6.2: a body of exactly MaxFrame bytes is one, and one of a byte more is none.
func TestPutOfTheMost(t *testing.T) {
	for _, size := range []int{100, 1027, 1028, 1053, 1054, 1055, 19998, 19999, 20000} {
		l := ofSize(size)
		b := put(t, l...)
		if len(b) != size || !bytes.Equal(b, toldAll(l...)) {
			t.Errorf("Put of %d bytes is %d", size, len(b))
		}
		gets(t, fmt.Sprintf("%d bytes", size), b, l...)
	}
	for _, size := range []int{20001, 20002, 20008, 21000, 40000, 65535, 65536, 65537, 85536, 100000} {
		l := ofSize(size)
		if len(toldAll(l...)) != size {
			t.Fatalf("not %d bytes", size)
		}
		if b, err := record.Put(l); itself(err) != api.ErrArg || len(b) != 0 {
			t.Errorf("Put of %d bytes is %d and %v, not ErrArg", size, len(b), err)
		}
	}
}

// P6.1: it is the bytes that count, not how many records there are.
func TestPutOfTheMostRecords(t *testing.T) {
	l := slices.Repeat([]api.Record{least(api.RGen)}, 3333)
	if b := put(t, l...); len(b) != 19998 {
		t.Errorf("Put of 3333 is %d bytes", len(b))
	}
	for _, more := range []int{1, 2, 1000, 1 << 16} {
		longer := append(slices.Clone(l), slices.Repeat(l[:1], more)...)
		if b, err := record.Put(longer); itself(err) != api.ErrArg || len(b) != 0 {
			t.Errorf("Put of %d more is %d bytes and %v, not ErrArg", more, len(b), err)
		}
	}
}

// P6.1
func TestCostKnown(t *testing.T) {
	for _, c := range []struct {
		r    api.Record
		want int64
	}{
		{full(api.RBucket), 50}, {full(api.RDrop), 14}, {full(api.RPut), 42}, {full(api.RDel), 27}, {full(api.RToken), 27}, {full(api.RRevoke), 18}, {full(api.RGen), 14},
		{least(api.RBucket), 50}, {least(api.RDrop), 14}, {least(api.RPut), 35}, {least(api.RDel), 25}, {least(api.RToken), 27}, {least(api.RRevoke), 18}, {least(api.RGen), 14},
		{greatest(api.RPut), 1098}, {greatest(api.RDel), 88}, {greatest(api.RBucket), 50}, {greatest(api.RToken), 27},
	} {
		if n := record.Cost(c.r); n != c.want {
			t.Errorf("Cost of %+v is %d, not %d", c.r, n, c.want)
		}
	}
}

// P6.1
func TestCostIsThatOfTheFrame(t *testing.T) {
	for _, r := range records() {
		f, err := frame.Put(put(t, r))
		if err != nil || record.Cost(r) != int64(len(f)) || !bytes.Equal(f, framed(told(r))) {
			t.Errorf("Cost of %+v is %d, and its frame has %d bytes (%v)", r, record.Cost(r), len(f), err)
		}
	}
}

// P6.1
func TestCostOfWhatMayNotBe(t *testing.T) {
	for _, r := range []api.Record{
		{}, {Kind: api.RBucket}, {Kind: api.RDrop}, {Kind: 8, Gen: 1}, {Kind: -1, Gen: 1}, {Kind: api.RPut, Gen: 1}, {Kind: api.RToken, Gen: 1},
		{Kind: api.RDrop, Gen: 1, Key: "k"}, {Kind: api.RPut, Gen: 1, Key: "k", Val: textOf(1001)}, {Kind: api.RDel, Gen: 1, Key: textOf(65)},
	} {
		if n := record.Cost(r); n != 0 {
			t.Errorf("Cost of %+v is %d", r, n)
		}
	}
}

// P6.2
func TestGetOfNoBytes(t *testing.T) {
	malformed(t, "nil", nil)
	malformed(t, "no bytes", []byte{})
	malformed(t, "no bytes, with room", make([]byte, 0, 100))
	malformed(t, "no bytes of some", told(full(api.RPut))[:0])
}

// P6.2
func TestGetAsTold(t *testing.T) {
	all := records()
	for _, r := range all {
		gets(t, "a record", told(r), r)
	}
	for from := 0; from+5 <= len(all); from += 3 {
		l := all[from : from+5]
		gets(t, "five records", toldAll(l...), l...)
	}
	gets(t, "one a hundred times", bytes.Repeat(told(full(api.RDel)), 100), slices.Repeat([]api.Record{full(api.RDel)}, 100)...)
}

// P6.2: cut off at each byte, with the rest as room behind and without.
func TestGetOfABodyThatIsCutOff(t *testing.T) {
	for _, ahead := range [][]api.Record{nil, {full(api.RDrop)}, {full(api.RPut), full(api.RToken)}} {
		for kind := api.RBucket; kind <= api.RGen; kind++ {
			for _, r := range []api.Record{least(kind), full(kind), greatest(kind)} {
				b := append(toldAll(ahead...), told(r)...)
				for end := len(toldAll(ahead...)) + 1; end < len(b); end++ {
					what := fmt.Sprintf("%s cut off at %d of %d", kindNames[kind], end, len(b))
					malformed(t, what, b[:end])
					malformed(t, what, bytes.Clone(b[:end]))
				}
			}
		}
	}
}

// P6.2: a byte behind is none of a record; of RDrop and RGen a whole one could be, with more bytes.
func TestGetOfABodyWithBytesBehind(t *testing.T) {
	for _, r := range records() {
		for _, behind := range [][]byte{{0}, {1}, {2}, {3}, {7}, {8}, {255}, {0, 0}, make([]byte, 6), make([]byte, 100), {2, 3, 1, 0, 0}, {8, 3, 1, 0, 0, 0}} {
			malformed(t, fmt.Sprintf("%+v with %v behind", r, behind), append(told(r), behind...))
		}
	}
	gets(t, "another record behind", append(told(full(api.RPut)), 2, 3, 1, 0, 0, 0), full(api.RPut), api.Record{Kind: api.RDrop, Bucket: 3, Gen: 1})
}

// odd are bytes of records that may not be, each whole: what told writes of any record.
func odd() map[string][]byte {
	l := map[string][]byte{}
	set := func(what string, kind int, change func(*api.Record)) {
		r := full(kind)
		change(&r)
		l[kindNames[kind]+", "+what] = told(r)
	}
	for kind := api.RBucket; kind <= api.RGen; kind++ {
		set("Gen 0", kind, func(r *api.Record) { r.Gen = 0 })
		for _, n := range []int{64, 65, 127, 128, 255} {
			set(fmt.Sprint("Bucket ", n), kind, func(r *api.Record) { r.Bucket = n })
		}
		for _, n := range []byte{0, 8, 9, 128, 255} {
			b := told(full(kind))
			b[0] = n
			l[fmt.Sprintf("%s, kind %d in its place", kindNames[kind], n)] = b
		}
	}
	for _, n := range []int64{math.MinInt64, -1 << 40, -1, 1<<40 + 1, 1 << 41, 1 << 48, math.MaxInt64} {
		set(fmt.Sprint("Keys ", n), api.RBucket, func(r *api.Record) { r.Quota.Keys = n })
		set(fmt.Sprint("Bytes ", n), api.RBucket, func(r *api.Record) { r.Quota.Bytes = n })
		set(fmt.Sprint("Budget ", n), api.RBucket, func(r *api.Record) { r.Quota.Budget = n })
	}
	for _, n := range []int{0, 8, 9, 15, 128, 255} {
		set(fmt.Sprint("Rights ", n), api.RToken, func(r *api.Record) { r.Rights = n })
	}
	for _, n := range []int{0, 65, 66, 128, 256, 257, 1000, 65535} {
		set(fmt.Sprint("a key of ", n), api.RPut, func(r *api.Record) { r.Key = textOf(n) })
		set(fmt.Sprint("a key of ", n), api.RDel, func(r *api.Record) { r.Key = textOf(n) })
	}
	for _, n := range []int{1001, 1002, 1024, 19000, 65535} {
		set(fmt.Sprint("a value of ", n), api.RPut, func(r *api.Record) { r.Val = textOf(n) })
	}
	return l
}

// P6.2: records that may not be, in the first place and in later ones.
func TestGetOfRecordsThatMayNotBe(t *testing.T) {
	good := told(full(api.RPut))
	for what, b := range odd() {
		malformed(t, what, b)
		malformed(t, what+", ahead of one", append(bytes.Clone(b), good...))
		malformed(t, what+", behind one", append(bytes.Clone(good), b...))
		malformed(t, what+", behind two and ahead of one", slices.Concat(good, good, b, good))
	}
}

// P6.2
func TestGetOfEachFirstByte(t *testing.T) {
	for kind := range 256 {
		for bucket := range 256 {
			b := []byte{byte(kind), byte(bucket), 1, 0, 0, 0}
			if (kind == api.RDrop || kind == api.RGen) && bucket < 64 {
				gets(t, fmt.Sprint(b), b, api.Record{Kind: kind, Bucket: bucket, Gen: 1})
			} else {
				malformed(t, fmt.Sprint(b), b)
			}
		}
	}
}

// P6.2: what a text's length tells isn't there.
func TestGetOfTextsThatAreLongerThanTheBody(t *testing.T) {
	for _, n := range []byte{4, 5, 63, 64} {
		b := told(full(api.RDel))
		b[14] = n
		malformed(t, fmt.Sprintf("a deletion's key of %d", n), b)
	}
	for _, n := range []int{6, 7, 255, 256, 1000} {
		b := told(full(api.RPut))
		b[27], b[28] = byte(n), byte(n>>8)
		malformed(t, fmt.Sprintf("a value of %d", n), b)
	}
}

// P6.2: as its words say, a body of more than a frame holds is read, too; P6.4 is of those that Put tells.
func TestGetOfMoreThanAFrameHolds(t *testing.T) {
	for _, size := range []int{20001, 30000, 65536, 100000} {
		l := ofSize(size)
		b := toldAll(l...)
		gets(t, fmt.Sprintf("%d bytes", size), b, l...)
		malformed(t, fmt.Sprintf("%d bytes, cut off", size), b[:len(b)-1])
	}
}

// P6.2, P6.4: each byte of a body changed to each other one, against the model; what is got is put as that body.
func TestGetWithEachByteChanged(t *testing.T) {
	for kind := api.RBucket; kind <= api.RGen; kind++ {
		for _, r := range []api.Record{least(kind), full(kind)} {
			b := append(told(r), told(full(api.RDel))...)
			for i := range b {
				for x := 1; x < 256; x++ {
					b[i] ^= byte(x)
					asTheModel(t, b)
					b[i] ^= byte(x)
				}
			}
		}
	}
}

// asTheModel tells of any bytes whether the model tells the same; what is got is put as those bytes.
func asTheModel(t *testing.T, b []byte) bool {
	t.Helper()
	want, is := model(b)
	if !is {
		malformed(t, fmt.Sprint(b), b)
		return false
	}
	gets(t, fmt.Sprint(b), b, want...)
	again, err := record.Put(want)
	if err != nil || !bytes.Equal(again, b) {
		t.Errorf("%v was got, and put as %v (%v)", b, again, err)
	}
	return true
}

// someRecord is any one of a few, so that each is seen often.
func someRecord(random *rand.Rand) api.Record {
	r := full(1 + random.Intn(7))
	r.Bucket, r.Gen = random.Intn(64), 1+random.Uint32()>>random.Intn(32)
	if namesField(r.Kind, "Key") {
		r.Key = textOf(1 + random.Intn(64))
	}
	if namesField(r.Kind, "Val") {
		r.Val = textOf(random.Intn(1001) >> random.Intn(8))
	}
	if namesField(r.Kind, "Rights") {
		r.Rights = 1 + random.Intn(7)
	}
	if namesField(r.Kind, "Serial") {
		r.Serial = random.Uint32()
	}
	if namesField(r.Kind, "Keys") {
		r.Quota = api.Quota{Keys: random.Int63n(1<<40 + 1), Bytes: random.Int63n(1<<40 + 1), Budget: random.Int63n(1<<40 + 1)}
	}
	return r
}

// P6.2, P6.4, P1: of any bytes, and of bodies with bytes changed, taken out or put in.
func TestGetAsTheModel(t *testing.T) {
	random := rand.New(rand.NewSource(3))
	good, bad := 0, 0
	for range 30000 {
		var b []byte
		for range 1 + random.Intn(4) {
			b = append(b, told(someRecord(random))...)
		}
		at := random.Intn(len(b))
		switch random.Intn(6) {
		case 0:
			b = b[:at]
		case 1:
			b[at] = byte(random.Intn(256))
		case 2:
			b = slices.Delete(b, at, at+1)
		case 3:
			b = slices.Insert(b, at, byte(random.Intn(256)))
		case 4:
			random.Read(b)
			b[0] = byte(random.Intn(9))
		}
		if asTheModel(t, b) {
			good++
		} else {
			bad++
		}
	}
	if good < 1000 || bad < 1000 {
		t.Errorf("%d were read, and %d were not", good, bad)
	}
}

// P6.3
func TestPutTellsNewMemory(t *testing.T) {
	memory := append(records()[:9], make([]api.Record, 9)...)
	was := slices.Clone(memory)
	l := memory[:9]
	want := toldAll(l...)
	first, second := put(t, l...), put(t, l...)
	for i := range first {
		first[i] ^= 255
	}
	first = append(first, "more"...)
	if !slices.Equal(memory, was) {
		t.Error("Put changes its records, or what is behind them")
	}
	if !bytes.Equal(second, want) {
		t.Error("a change of one body is seen in another")
	}
	for i := range memory {
		memory[i] = full(api.RGen)
	}
	if !bytes.Equal(second, want) {
		t.Error("a change of the records is seen in the body")
	}
}

// P6.3
func TestGetTellsNewMemory(t *testing.T) {
	l := []api.Record{full(api.RPut), greatest(api.RPut), full(api.RDel), full(api.RToken)}
	memory := append(toldAll(l...), bytes.Repeat([]byte{7}, 50)...)
	was := bytes.Clone(memory)
	b := memory[:len(memory)-50]
	first, _ := record.Get(b)
	second, _ := record.Get(b)
	for i := range first {
		first[i] = least(api.RGen)
	}
	first = append(first, least(api.RGen))
	if !bytes.Equal(memory, was) {
		t.Error("Get changes its body, or what is behind it")
	}
	if !slices.Equal(second, l) {
		t.Error("a change of what was got is seen in what was got else")
	}
	for i := range memory {
		memory[i] ^= 255
	}
	if !slices.Equal(second, l) {
		t.Error("a change of the body is seen in what was got")
	}
}

// P6.3, R2: also what is refused stays as it is.
func TestWhatIsRefusedStays(t *testing.T) {
	for what, b := range odd() {
		was := bytes.Clone(b)
		record.Get(b)
		if !bytes.Equal(b, was) {
			t.Errorf("%s became %v", what, b)
		}
	}
	l := []api.Record{full(api.RPut), {Kind: 9, Rights: 300, Key: textOf(70)}, full(api.RDel)}
	was := slices.Clone(l)
	record.Put(l)
	if !slices.Equal(l, was) {
		t.Errorf("%+v became %+v", was, l)
	}
}

// P6.3: nothing is kept from call to call.
func TestNothingIsKept(t *testing.T) {
	for range 2 {
		for _, r := range records() {
			b := put(t, r)
			record.Put(nil)
			record.Get([]byte("what is no record"))
			record.Cost(api.Record{})
			gets(t, "a record", b, r)
			if !bytes.Equal(b, told(r)) {
				t.Errorf("the body of %+v became another", r)
			}
		}
	}
}

// P6.4
func TestWhatWasPutIsGot(t *testing.T) {
	random := rand.New(rand.NewSource(4))
	for range 3000 {
		var l []api.Record
		for range 1 + random.Intn(16) {
			l = append(l, someRecord(random))
		}
		b := put(t, l...)
		gets(t, "what was put", b, l...)
		got, _ := record.Get(b)
		if again := put(t, got...); !bytes.Equal(again, b) {
			t.Errorf("%v was got, and put as %v", b, again)
		}
	}
}

// P6.4: all costs together are no less than the body's frame, and just that of one record.
func TestCostsAreNoLessThanTheFrame(t *testing.T) {
	all := records()
	lists := [][]api.Record{ofSize(19999), ofSize(20000), slices.Repeat([]api.Record{least(api.RGen)}, 3333)}
	for many := 1; many <= 20; many++ {
		for from := 0; from+many <= len(all); from += 11 {
			if l := all[from : from+many]; len(toldAll(l...)) <= 20000 {
				lists = append(lists, l)
			}
		}
	}
	for _, l := range lists {
		costs := int64(0)
		for _, r := range l {
			costs += record.Cost(r)
		}
		size := int64(frame.Size(len(put(t, l...))))
		if costs < size || costs != size+8*int64(len(l)-1) {
			t.Errorf("the costs of %d records are %d, and the frame of all has %d bytes", len(l), costs, size)
		}
	}
}

// P1: all calls end, at any numbers and texts in any fields, and tell alike of a record whether it may be.
func TestAllCallsEndAtAnyRecord(t *testing.T) {
	random := rand.New(rand.NewSource(5))
	odds := []int64{math.MinInt64, math.MinInt32, -256, -1, 0, 1, 2, 3, 7, 8, 63, 64, 255, 256, 1 << 40, 1<<40 + 1, math.MaxInt32, math.MaxUint32, math.MaxInt64}
	for range 20000 {
		var r api.Record
		scatter(random, reflect.ValueOf(&r).Elem(), odds)
		b, err := record.Put([]api.Record{r})
		if record.May(r) != (err == nil) || (record.Cost(r) > 0) != (err == nil) {
			t.Fatalf("%+v: May is %v, Cost %d, Put's error %v", r, record.May(r), record.Cost(r), err)
		}
		if err == nil {
			gets(t, "any record", b, r)
		}
	}
}

// scatter sets some fields of a record to odd numbers and texts.
func scatter(random *rand.Rand, v reflect.Value, odds []int64) {
	for i := range v.NumField() {
		f := v.Field(i)
		switch {
		case f.Kind() == reflect.Struct:
			scatter(random, f, odds)
		case random.Intn(2) == 0:
		case f.CanInt():
			f.SetInt(odds[random.Intn(len(odds))])
		case f.CanUint():
			f.SetUint(uint64(odds[random.Intn(len(odds))]) & (1<<f.Type().Bits() - 1))
		default:
			f.SetString(textOf(random.Intn(70)))
		}
	}
}
