package store_test

import (
	"fmt"
	"maps"
	"math"
	"slices"
	"strings"
	"testing"

	"hassock/api"
	"hassock/bucket"
	"hassock/disk"
	"hassock/seglog"
	"hassock/store"
)

// P18.1: which configs may be; others are refused ahead of the disk's error, without an effect.
func TestConfigs(t *testing.T) {
	for _, limit := range []int{math.MinInt, math.MinInt/400 - 1, -100, -1, 0, 1, 99, 100, 101, 1000, 1 << 30, 1<<30 + 1, math.MaxInt / 400, math.MaxInt/400 + 1, math.MaxInt/2 + 1, math.MaxInt} {
		for _, capacity := range []int{math.MinInt, -40000, -1, 0, 1, 100, 39600, 39999, 40000, 40001, 40400, 40401, 400000, 400001, 400<<30 - 1, 400 << 30, 400<<30 + 1, 400<<30 + 401, math.MaxInt} {
			c := store.Config{Limit: limit, Capacity: capacity}
			may := limit >= 100 && limit <= 1<<30 && capacity >= 0 && capacity <= 400*limit
			d := disk.New(room)
			s, err := store.Open(d, c)
			if may {
				is(t, fmt.Sprint(c), err, 0)
				continue
			}
			is(t, fmt.Sprint(c), err, api.ErrArg)
			if s != nil || d.Effects() != 0 || d.Used() != 0 {
				t.Errorf("%v: %v, %d effects", c, s, d.Effects())
			}
			down(d)
			_, err = store.Open(d, c)
			is(t, fmt.Sprint(c), err, api.ErrArg)
		}
	}
}

// down takes a disk down.
func down(d *disk.Disk) {
	d.Plan(0, 0)
	_ = d.Create("any")
}

// P18.1: the log's errors.
func TestErrorsOfOpen(t *testing.T) {
	d := disk.New(room)
	down(d)
	s, err := store.Open(d, wide)
	if is(t, "a disk that is down", err, api.ErrDisk); s != nil {
		t.Error(s)
	}
	d = disk.New(room)
	done(t, d.Create("m"))
	s, err = store.Open(d, wide)
	if is(t, "a manifest that is none", err, api.ErrForm); s != nil {
		t.Error(s)
	}
	s, err = store.Open(disk.New(3), wide)
	if is(t, "a disk that is full", err, api.ErrSpace); s != nil {
		t.Error(s)
	}
	for effects := range 100 {
		d := disk.New(room)
		d.Plan(effects, 0)
		s, err := store.Open(d, wide)
		if err == nil {
			if effects != 5 {
				t.Errorf("a new disk has %d effects", effects)
			}
			return
		}
		if is(t, "a crash", err, api.ErrDisk); s != nil {
			t.Error(s)
		}
	}
}

// P18.1: a new store.
func TestNewStore(t *testing.T) {
	d := disk.New(room)
	s := open(t, d, wide)
	if len(s.Buckets()) != 0 || s.Reserve() != base {
		t.Error(s.Buckets(), s.Reserve())
	}
	for _, id := range append(slices.Clone(numbers), 0, 1, 2, 62, 63) {
		if b, there := s.Bucket(id); b != nil || there || s.Next(id) != 1 {
			t.Error(id, b, there, s.Next(id))
		}
	}
	l := s.Log()
	if l == nil || !slices.Equal(l.Segments(), []int{1}) || l.Bytes() != 0 || l.Begun() {
		t.Fatal(l)
	}
	if _, err := l.Append([]api.Record{dropOf(3, 1)}); err != nil || s.Log().Bytes() != dropCost {
		t.Error(err, s.Log().Bytes())
	}
}

// P18.1: the config's limit is the log's.
func TestLimitOfSegments(t *testing.T) {
	s := fresh(t, store.Config{Limit: 100, Capacity: 40000})
	must(t, s, 3, 0)
	for range 3 {
		done(t, s.Resize(3, budget(0)))
	}
	// Its first frame has 69 bytes, and two of the others fit into one segment.
	if l := s.Log().Segments(); !slices.Equal(l, []int{1, 2, 3}) {
		t.Error(l)
	}
}

// P18.1: all records of a log are applied, in their order.
func TestOpenedLogs(t *testing.T) {
	const most = math.MaxUint32
	q, other := budget(500), api.Quota{Keys: 1, Bytes: 2, Budget: 3}
	meta := bucketOf(4, 2, q, 7, 9)
	for _, c := range []struct {
		what    string
		l       []api.Record
		next    uint32
		meta    api.Record // zero, if there is no bucket
		keys    int64
		tokens  int
		charged int64
		reserve int64
	}{
		{"a bucket", []api.Record{meta}, 3, meta, 0, 0, 0, 500 + 50 + 28},
		{"one of the first generation", []api.Record{bucketOf(4, 1, q, 1, 1)}, 2, bucketOf(4, 1, q, 1, 1), 0, 0, 0, 578},
		{"one of the last but one", []api.Record{bucketOf(4, most-1, q, 1, 1)}, most, bucketOf(4, most-1, q, 1, 1), 0, 0, 0, 578},
		{"one of the last", []api.Record{bucketOf(4, most, q, 1, 1)}, most, bucketOf(4, most, q, 1, 1), 0, 0, 0, 578},
		{"one resized", []api.Record{meta, bucketOf(4, 2, other, 8, 10)}, 3, bucketOf(4, 2, other, 8, 10), 0, 0, 0, 3 + 100 + 28},
		{"one resized back", []api.Record{meta, bucketOf(4, 2, other, 1, 0)}, 3, bucketOf(4, 2, other, 1, 0), 0, 0, 0, 131},
		{"one resized with a key", []api.Record{meta, putOf(4, 2, "a", "b", 9, 0), bucketOf(4, 2, other, 10, 10)}, 3, bucketOf(4, 2, other, 10, 10), 1, 0, 36, 36 + 100 + 28},
		{"a key", []api.Record{meta, putOf(4, 2, "a", "b", 9, 0)}, 3, bucketOf(4, 2, q, 10, 9), 1, 0, 36, 578},
		{"a key that is deleted", []api.Record{meta, putOf(4, 2, "a", "b", 9, 0), delOf(4, 2, "a", 10)}, 3, bucketOf(4, 2, q, 11, 9), 0, 0, 36 + 25, 578},
		{"a token", []api.Record{meta, tokenOf(4, 2, 9, 7, 1)}, 3, bucketOf(4, 2, q, 7, 10), 0, 1, 27, 578},
		{"a token that is revoked", []api.Record{meta, tokenOf(4, 2, 9, 7, 1), revokeOf(4, 2, 9)}, 3, bucketOf(4, 2, q, 7, 10), 0, 0, 27 + 18, 578},
		{"charged more than its budget", []api.Record{meta, putOf(4, 2, "a", strings.Repeat("v", 466), 1, 0)}, 3, meta, 1, 0, 501, 501 + 78},
		{"charged its budget", []api.Record{meta, putOf(4, 2, "a", strings.Repeat("v", 465), 1, 0)}, 3, meta, 1, 0, 500, 578},
		{"ahead of its bucket", []api.Record{putOf(4, 2, "a", "b", 9, 0), tokenOf(4, 2, 9, 7, 1), meta}, 3, meta, 0, 0, 0, 578},
		{"of another generation", []api.Record{meta, putOf(4, 1, "a", "b", 9, 0), putOf(4, 3, "b", "b", 9, 0), tokenOf(4, 3, 9, 7, 1)}, 3, meta, 0, 0, 0, 578},
		{"of another number", []api.Record{meta, putOf(5, 2, "a", "b", 9, 0), tokenOf(3, 2, 9, 7, 1), delOf(63, 2, "a", 1), revokeOf(0, 2, 1)}, 3, meta, 0, 0, 0, 578},
		{"dropped", []api.Record{meta, dropOf(4, 2)}, 3, api.Record{}, 0, 0, 0, 578},
		{"dropped twice", []api.Record{meta, dropOf(4, 2), dropOf(4, 2)}, 3, api.Record{}, 0, 0, 0, 578},
		{"dropped, and made anew", []api.Record{meta, dropOf(4, 2), bucketOf(4, 3, other, 1, 2)}, 4, bucketOf(4, 3, other, 1, 2), 0, 0, 0, 578 + 3 + 78},
		{"dropped, and made anew in the same generation", []api.Record{meta, putOf(4, 2, "a", "b", 9, 0), dropOf(4, 2), bucketOf(4, 2, other, 1, 2)}, 3, bucketOf(4, 2, other, 1, 2), 0, 0, 0, 578 + 3 + 78},
		{"dropped, charged more than its budget", []api.Record{meta, putOf(4, 2, "a", strings.Repeat("v", 466), 1, 0), dropOf(4, 2)}, 3, api.Record{}, 0, 0, 0, 501 + 78},
		{"dropped, resized ahead of that", []api.Record{meta, bucketOf(4, 2, other, 1, 2), dropOf(4, 2)}, 3, api.Record{}, 0, 0, 0, 3 + 100 + 28},
		{"a drop of another generation", []api.Record{meta, dropOf(4, 1), dropOf(4, 3), dropOf(5, 2), dropOf(3, 2)}, 3, meta, 0, 0, 0, 578},
		{"a drop of none", []api.Record{dropOf(4, 1)}, 1, api.Record{}, 0, 0, 0, 0},
		{"a key behind a drop", []api.Record{meta, dropOf(4, 2), putOf(4, 2, "a", "b", 9, 0)}, 3, api.Record{}, 0, 0, 0, 578},
		{"a generation", []api.Record{genOf(4, 9)}, 9, api.Record{}, 0, 0, 0, 14},
		{"the first one", []api.Record{genOf(4, 1)}, 1, api.Record{}, 0, 0, 0, 14},
		{"the last one", []api.Record{genOf(4, most)}, most, api.Record{}, 0, 0, 0, 14},
		{"a lesser one", []api.Record{genOf(4, 9), genOf(4, 8)}, 9, api.Record{}, 0, 0, 0, 28},
		{"a greater one", []api.Record{genOf(4, 9), genOf(4, 10)}, 10, api.Record{}, 0, 0, 0, 28},
		{"a generation, and a bucket", []api.Record{genOf(4, 2), meta}, 3, meta, 0, 0, 0, 14 + 578},
		{"a generation, and one ahead of it", []api.Record{genOf(4, 9), meta}, 9, meta, 0, 0, 0, 14 + 578},
		{"a bucket, and a generation", []api.Record{meta, genOf(4, 9)}, 9, meta, 0, 0, 0, 14 + 578},
		{"a bucket, and its own generation", []api.Record{meta, genOf(4, 2)}, 3, meta, 0, 0, 0, 14 + 578},
		{"in place of a lesser one", []api.Record{meta, putOf(4, 2, "a", "b", 9, 0), bucketOf(4, 5, other, 1, 2)}, 6, bucketOf(4, 5, other, 1, 2), 0, 0, 0, 3 + 100 + 28},
		{"in place of a greater one", []api.Record{meta, putOf(4, 2, "a", "b", 9, 0), bucketOf(4, 1, other, 1, 2)}, 3, bucketOf(4, 1, other, 1, 2), 0, 0, 0, 3 + 100 + 28},
	} {
		s := open(t, logged(t, c.l...), wide)
		if s.Next(4) != c.next || s.Reserve() != base+2*c.reserve {
			t.Errorf("%s: next %d, reserved %d, not %d, %d", c.what, s.Next(4), s.Reserve(), c.next, base+2*c.reserve)
		}
		b, there := s.Bucket(4)
		if !there {
			if c.meta != (api.Record{}) || len(s.Buckets()) != 0 {
				t.Errorf("%s: there is none; %v", c.what, s.Buckets())
			}
			continue
		}
		if b.Meta() != c.meta || b.Keys() != c.keys || len(b.Tokens()) != c.tokens || b.Charged() != c.charged {
			t.Errorf("%s: %+v, %d keys, %d tokens, %d", c.what, b.Meta(), b.Keys(), len(b.Tokens()), b.Charged())
		}
		if !slices.Equal(s.Buckets(), []int{4}) {
			t.Errorf("%s: %v", c.what, s.Buckets())
		}
	}
}

// P18.1: numbers are told rising, in whatever order the buckets came, each with a generation of its own.
func TestBuckets(t *testing.T) {
	s := fresh(t, wide)
	for _, id := range []int{63, 5, 0, 10, 1, 62} {
		must(t, s, id, 1)
	}
	done(t, s.Drop(10))
	if l := s.Buckets(); !slices.Equal(l, []int{0, 1, 5, 62, 63}) {
		t.Error(l)
	}
	for id := range 64 {
		b, there := s.Bucket(id)
		if there && b.Meta().Bucket != id || there != slices.Contains([]int{0, 1, 5, 62, 63}, id) {
			t.Error(id, b, there)
		}
		want := uint32(1)
		if slices.Contains([]int{0, 1, 5, 10, 62, 63}, id) {
			want = 2
		}
		if s.Next(id) != want {
			t.Errorf("next of %d: %d", id, s.Next(id))
		}
	}
	s.Buckets()[0] = 9
	if l := s.Buckets(); !slices.Equal(l, []int{0, 1, 5, 62, 63}) {
		t.Errorf("what was told isn't new memory: %v", l)
	}
}

// P18.2: what Create makes.
func TestCreate(t *testing.T) {
	d := disk.New(room)
	s := open(t, d, wide)
	q := api.Quota{Keys: 5, Bytes: 0, Budget: 1 << 37}
	k, err := s.Create(0, q, math.MaxUint64)
	done(t, err)
	if k != (api.Token{Bucket: 0, Gen: 1, Serial: 1, Secret: math.MaxUint64}) {
		t.Error(k)
	}
	b, _ := s.Bucket(0)
	if b.Meta() != bucketOf(0, 1, q, 1, 2) || b.Rights(k) != api.CanAll || b.Charged() != tokenCost || b.Keys() != 0 {
		t.Error(b.Meta(), b.Rights(k), b.Charged())
	}
	k, err = s.Create(63, api.Quota{}, 0)
	done(t, err)
	if k != (api.Token{Bucket: 63, Gen: 1, Serial: 1}) {
		t.Error(k)
	}
	done(t, s.Drop(63))
	k, err = s.Create(63, api.Quota{Keys: api.MaxQuota, Bytes: api.MaxQuota}, 7)
	done(t, err)
	if k != (api.Token{Bucket: 63, Gen: 2, Serial: 1, Secret: 7}) || s.Next(63) != 3 {
		t.Error(k, s.Next(63))
	}
	hasFrames(t, "two buckets", d, wide,
		[]api.Record{bucketOf(0, 1, q, 1, 2), tokenOf(0, 1, 1, 7, math.MaxUint64)},
		[]api.Record{bucketOf(63, 1, api.Quota{}, 1, 2), tokenOf(63, 1, 1, 7, 0)},
		[]api.Record{dropOf(63, 1)},
		[]api.Record{bucketOf(63, 2, api.Quota{Keys: api.MaxQuota, Bytes: api.MaxQuota}, 1, 2), tokenOf(63, 2, 1, 7, 7)},
	)
}

// P18.2: quotas that may not be, in each of their three.
func TestQuotasThatMayNotBe(t *testing.T) {
	s := fresh(t, wide)
	must(t, s, 4, 0)
	before := picture(t, s)
	for _, n := range []int64{math.MinInt64, -1, api.MaxQuota + 1, math.MaxInt64} {
		for _, q := range []api.Quota{{Keys: n}, {Bytes: n}, {Budget: n}} {
			_, err := s.Create(5, q, 1)
			is(t, fmt.Sprint("Create ", q), err, api.ErrArg)
			_, err = s.Create(4, q, 1)
			is(t, fmt.Sprint("Create of one that is there ", q), err, api.ErrArg)
			is(t, fmt.Sprint("Resize ", q), s.Resize(4, q), api.ErrArg)
			is(t, fmt.Sprint("Resize of none ", q), s.Resize(5, q), api.ErrArg)
		}
	}
	for _, q := range []api.Quota{{Keys: api.MaxQuota}, {Bytes: api.MaxQuota}} {
		is(t, fmt.Sprint("Resize ", q), s.Resize(4, q), 0)
	}
	// This one may be, and is more than any disk has.
	is(t, "Resize to the greatest budget", s.Resize(4, api.Quota{Budget: api.MaxQuota}), api.ErrSpace)
	_, err := s.Create(5, api.Quota{Budget: api.MaxQuota}, 1)
	is(t, "Create of the greatest budget", err, api.ErrSpace)
	if picture(t, s) == before {
		t.Error("nothing was resized")
	}
}

// P18.2: numbers that no bucket has, and errors ahead of each other.
func TestErrorsInOrder(t *testing.T) {
	d := logged(t, bucketOf(4, 1, budget(0), 1, 2), genOf(5, math.MaxUint32), genOf(6, math.MaxUint32-1), bucketOf(7, math.MaxUint32, budget(0), 1, 2), bucketOf(8, math.MaxUint32-1, budget(0), 1, 2), dropOf(8, math.MaxUint32-1))
	c := store.Config{Limit: 100, Capacity: 10000}
	s := open(t, d, c)
	before := picture(t, s)
	create := func(id int, q api.Quota) error {
		k, err := s.Create(id, q, 9)
		if err != nil && k != (api.Token{}) {
			t.Errorf("%v beside an error", k)
		}
		return err
	}
	refuse := func(what string, full api.Code) {
		t.Helper()
		effects := d.Effects()
		for _, id := range numbers {
			is(t, what+"Create", create(id, budget(0)), api.ErrArg)
			is(t, what+"Resize", s.Resize(id, budget(0)), api.ErrArg)
			is(t, what+"Drop", s.Drop(id), api.ErrArg)
		}
		for _, id := range []int{0, 3, 5, 6, 8, 63} {
			is(t, what+"Resize of none", s.Resize(id, budget(0)), api.ErrNone)
			is(t, what+"Drop of none", s.Drop(id), api.ErrNone)
		}
		for _, id := range []int{4, 7} {
			is(t, what+"Create of one that is there", create(id, budget(0)), api.ErrTwice)
			is(t, what+"Resize", s.Resize(id, budget(0)), full)
		}
		is(t, what+"Create in the greatest generation", create(5, budget(0)), api.ErrLimit)
		is(t, what+"Create behind the last one", create(8, budget(0)), api.ErrLimit)
		is(t, what+"Create", create(6, budget(0)), full)
		if d.Effects() != effects || picture(t, s) != before {
			t.Errorf("%sit has changed: %d effects more", what, d.Effects()-effects)
		}
	}
	refuse("a full disk: ", api.ErrSpace)
	down(d)
	refuse("down, and full: ", api.ErrSpace)
	is(t, "Drop, down", s.Drop(4), api.ErrDisk)

	d.Open()
	c = wide
	s = open(t, d, c)
	before = picture(t, s)
	down(d)
	refuse("down: ", api.ErrDisk)
	is(t, "Drop, down", s.Drop(4), api.ErrDisk)

	d.Open()
	s = open(t, d, c)
	is(t, "Create in the last generation but one", create(6, budget(0)), 0)
	done(t, s.Drop(6))
	is(t, "Create behind it", create(6, budget(0)), api.ErrLimit)
	done(t, s.Drop(7))
	is(t, "Create behind the greatest", create(7, budget(0)), api.ErrLimit)
}

// P18.2: what Resize and Drop append.
func TestResizeAndDrop(t *testing.T) {
	d := disk.New(room)
	s := open(t, d, wide)
	b := must(t, s, 4, 500)
	must(t, s, 5, 500)
	l := []api.Record{putOf(4, 1, "a", "1", 6, 0), tokenOf(4, 1, 8, 3, 5)}
	done(t, s.Append(l))
	q := api.Quota{Keys: 1, Bytes: 2, Budget: 3}
	done(t, s.Resize(4, q))
	if b.Meta() != bucketOf(4, 1, q, 7, 9) || b.Keys() != 1 || len(b.Tokens()) != 2 || b.Charged() != 27+36+27 {
		t.Errorf("%+v, %d", b.Meta(), b.Charged())
	}
	other, _ := s.Bucket(5)
	if other.Meta() != bucketOf(5, 1, budget(500), 1, 2) {
		t.Errorf("%+v", other.Meta())
	}
	done(t, s.Drop(4))
	if b, there := s.Bucket(4); b != nil || there || s.Next(4) != 2 || !slices.Equal(s.Buckets(), []int{5}) {
		t.Error(b, there, s.Next(4), s.Buckets())
	}
	hasFrames(t, "resized, and dropped", d, wide,
		[]api.Record{bucketOf(4, 1, budget(500), 1, 2), tokenOf(4, 1, 1, 7, 1)},
		[]api.Record{bucketOf(5, 1, budget(500), 1, 2), tokenOf(5, 1, 1, 7, 1)},
		l,
		[]api.Record{bucketOf(4, 1, q, 7, 9)},
		[]api.Record{dropOf(4, 1)},
	)
}

// P18.2, P18.3: the disk's error at each effect, and whatever error of it, leaves the store as it was.
func TestErrorsOfTheDisk(t *testing.T) {
	c := store.Config{Limit: 100, Capacity: 40000}
	for what, call := range map[string]func(*store.Store) error{
		"Create": func(s *store.Store) error {
			k, err := s.Create(6, budget(30), 9)
			if err != nil && k != (api.Token{}) {
				t.Errorf("%v beside an error", k)
			}
			return err
		},
		"Resize": func(s *store.Store) error { return s.Resize(4, budget(30)) },
		"Drop":   func(s *store.Store) error { return s.Drop(4) },
		"Append": func(s *store.Store) error {
			return s.Append([]api.Record{putOf(4, 1, "k", strings.Repeat("v", 50), 1, 0)})
		},
	} {
		for effects := range 20 {
			d := disk.New(room)
			s := open(t, d, c)
			must(t, s, 4, 0)
			before := stateOf(s)
			d.Plan(effects, 0)
			err := call(s)
			if err == nil {
				if effects == 0 || stateOf(s) == before {
					t.Errorf("%s: behind %d effects it is done", what, effects)
				}
				break
			}
			is(t, what, err, api.ErrDisk)
			if stateOf(s) != before {
				t.Errorf("%s: %s, not %s", what, stateOf(s), before)
			}
		}
		d := disk.New(200)
		s := open(t, d, c)
		must(t, s, 4, 0)
		done(t, d.Create("fill"))
		done(t, d.Append("fill", make([]byte, 200-d.Used())))
		before := stateOf(s)
		if is(t, what, call(s), api.ErrSpace); stateOf(s) != before {
			t.Errorf("%s: %s, not %s", what, stateOf(s), before)
		}
		is(t, what, call(s), api.ErrDisk)
	}
}

// stateOf is what a store tells without its log.
func stateOf(s *store.Store) string {
	text := fmt.Sprint(s.Reserve(), s.Buckets())
	for _, id := range s.Buckets() {
		b, _ := s.Bucket(id)
		text += fmt.Sprintf(" %d: %+v %+v %+v %d;", s.Next(id), b.Meta(), b.Tokens(), b.Entries(), b.Charged())
	}
	return text
}

// P18.3: records go into one frame, and what the log refuses isn't applied.
func TestAppend(t *testing.T) {
	d := disk.New(room)
	s := open(t, d, wide)
	b := must(t, s, 4, 0)
	before := picture(t, s)
	long := slices.Repeat([]api.Record{putOf(4, 1, "k", strings.Repeat("v", 1000), 1, 0)}, 20)
	for what, l := range map[string][]api.Record{
		"none":                  nil,
		"one that may not be":   {putOf(4, 1, "a", "", 1, 0), putOf(4, 1, "", "", 1, 0)},
		"a bucket that is none": {putOf(64, 1, "a", "", 1, 0)},
		"below 0":               {putOf(-1, 1, "a", "", 1, 0)},
		"too many":              long,
	} {
		effects := d.Effects()
		if is(t, what, s.Append(l), api.ErrArg); picture(t, s) != before || d.Effects() != effects {
			t.Errorf("%s: it has changed", what)
		}
	}
	l := []api.Record{putOf(4, 1, "a", "12", 1, 5), putOf(4, 1, "b", "", 2, 0), delOf(4, 1, "b", 3), tokenOf(4, 1, 2, 3, 4), revokeOf(4, 1, 1)}
	kept := slices.Clone(l)
	done(t, s.Append(l))
	if !slices.Equal(l, kept) {
		t.Error("what was handed in is changed")
	}
	e, _ := b.Get("a")
	told, err := s.Log().Read(e.Spot)
	if err != nil || !slices.Equal(told, l) {
		t.Errorf("%+v, %v", told, err)
	}
	if b.Meta() != bucketOf(4, 1, budget(0), 4, 3) || b.Keys() != 1 || !slices.Equal(b.Tokens(), l[3:4]) || b.Charged() != 27+37+35+25+27+18 {
		t.Errorf("%+v, %+v, %d", b.Meta(), b.Tokens(), b.Charged())
	}
	hasFrames(t, "appended", d, wide, []api.Record{bucketOf(4, 1, budget(0), 1, 2), tokenOf(4, 1, 1, 7, 1)}, l)
}

// P18.3: records of any kind, number and generation leave the store as it is opened from them, and end.
func TestAppendOfAny(t *testing.T) {
	d := disk.New(room)
	s := open(t, d, wide)
	must(t, s, 4, 0)
	for _, l := range [][]api.Record{
		{putOf(5, 1, "a", "", 1, 0), putOf(4, 2, "a", "", 1, 0), putOf(4, 1, "b", "", 1, 0)},
		{genOf(9, 7), genOf(4, 3)},
		{bucketOf(6, 8, budget(70), 1, 1), tokenOf(6, 8, 1, 1, 1), putOf(6, 8, "x", "y", 1, 0)},
		{dropOf(4, 1), dropOf(6, 7)},
		{bucketOf(6, 9, budget(80), 1, 1)},
		{tokenOf(4, 1, 1, 1, 1)},
	} {
		done(t, s.Append(l))
		if again := open(t, d, wide); picture(t, s) != picture(t, again) {
			t.Errorf("%+v: %s, not %s", l, picture(t, s), picture(t, again))
		}
		s = open(t, d, wide)
	}
	if !slices.Equal(s.Buckets(), []int{6}) || s.Next(9) != 7 || s.Next(4) != 3 || s.Next(6) != 10 {
		t.Error(s.Buckets(), s.Next(9), s.Next(4), s.Next(6))
	}
}

// P18.3: values, each size, of keys of one frame, put more than once, and of other buckets.
func TestValue(t *testing.T) {
	s := fresh(t, store.Config{Limit: 2000, Capacity: 100000})
	b, other := must(t, s, 4, 0), must(t, s, 5, 0)
	value := func(b *bucket.Bucket, key, want string) {
		t.Helper()
		v, err := s.Value(b, key)
		if is(t, key, err, 0); v != want {
			t.Errorf("%q: %q, not %q", key, v, want)
		}
	}
	for n := 0; n <= 1000; n += 50 {
		done(t, s.Append([]api.Record{putOf(4, 1, "k", strings.Repeat("v", n), uint64(n), 0)}))
		value(b, "k", strings.Repeat("v", n))
	}
	done(t, s.Append([]api.Record{
		putOf(4, 1, "a", "1", 2001, 0), putOf(4, 1, "b", "2", 2002, 0), putOf(4, 1, "a", "3", 2003, 0),
		delOf(4, 1, "b", 2004), putOf(4, 1, "b", "4", 2005, 9), putOf(4, 1, "c", "5", 2006, 0), delOf(4, 1, "c", 2007),
	}))
	done(t, s.Append([]api.Record{putOf(4, 2, "d", "6", 1, 0), putOf(4, 1, "d", "7", 1, 0), putOf(4, 1, "d", "8", 1, 0), putOf(5, 1, "d", "9", 1, 0), putOf(4, 2, "d", "10", 1, 0)}))
	for key, want := range map[string]string{"a": "3", "b": "4", "d": "8", "k": strings.Repeat("v", 1000)} {
		value(b, key, want)
	}
	// Applied with the bucket's own records, another bucket's are passed by.
	value(other, "d", "9")
	for _, key := range []string{"c", "", "z", "aa", strings.Repeat("k", 65)} {
		hasNone(t, s, "no such key", b, key, api.ErrNone)
	}
	hasNone(t, s, "another bucket's key", other, "a", api.ErrNone)
	if n := b.Tick(9); n != 1 {
		t.Error(n)
	}
	hasNone(t, s, "a key that is gone", b, "b", api.ErrNone)
	none, _ := s.Bucket(9)
	hasNone(t, s, "a bucket that isn't there", none, "a", api.ErrNone)
}

// hasNone tells of a key that there must be that error, and no value beside it.
func hasNone(t *testing.T, s *store.Store, what string, b *bucket.Bucket, key string, want api.Code) {
	t.Helper()
	v, err := s.Value(b, key)
	if is(t, what, err, want); v != "" {
		t.Errorf("%s: %q beside an error", what, v)
	}
}

// P18.3: the log's errors; the key's comes ahead of them.
func TestErrorsOfValue(t *testing.T) {
	d := disk.New(room)
	s := open(t, d, wide)
	b := must(t, s, 4, 0)
	done(t, s.Append([]api.Record{putOf(4, 1, "a", "1", 1, 0)}))
	foreign := bucket.New(4, 1, budget(0))
	e, _ := b.Get("a")
	for what, c := range map[string]struct {
		r    api.Record
		s    api.Spot
		want api.Code
	}{
		"no such segment":   {putOf(4, 1, "a", "1", 1, 0), api.Spot{Seg: 2, At: e.Spot.At, Len: e.Spot.Len}, api.ErrNone},
		"no such frame":     {putOf(4, 1, "a", "1", 1, 0), api.Spot{Seg: 1, At: e.Spot.At + 1, Len: e.Spot.Len}, api.ErrForm},
		"another key":       {putOf(4, 1, "b", "1", 1, 0), e.Spot, api.ErrForm},
		"another version":   {putOf(4, 1, "a", "1", 2, 0), e.Spot, api.ErrForm},
		"another expiry":    {putOf(4, 1, "a", "1", 1, 2), e.Spot, api.ErrForm},
		"a token's frame":   {putOf(4, 1, "a", "1", 1, 0), api.Spot{Seg: 1, At: 0, Len: e.Spot.At}, api.ErrForm},
		"one of that place": {putOf(4, 1, "a", "1", 1, 0), e.Spot, 0},
	} {
		foreign.Apply(c.r, c.s)
		if c.want != 0 {
			hasNone(t, s, what, foreign, c.r.Key, c.want)
		} else if v, err := s.Value(foreign, c.r.Key); v != "1" || err != nil {
			t.Error(what, v, err)
		}
	}
	later := bucket.New(4, 2, budget(0))
	later.Apply(putOf(4, 2, "a", "1", 1, 0), e.Spot)
	hasNone(t, s, "another generation", later, "a", api.ErrForm)
	down(d)
	hasNone(t, s, "no key, down", b, "z", api.ErrNone)
	hasNone(t, s, "down", b, "a", api.ErrDisk)
	d.Open()
	hasNone(t, s, "down once", b, "a", api.ErrDisk)
}

// P18.1: what is handed in but the disk isn't kept, and two stores on disks of their own don't know each other.
func TestApart(t *testing.T) {
	a, b := fresh(t, wide), fresh(t, wide)
	must(t, a, 4, 0)
	if len(b.Buckets()) != 0 || b.Next(4) != 1 || b.Log().Bytes() != 0 {
		t.Error(b.Buckets(), b.Next(4))
	}
	l := []api.Record{putOf(4, 1, "a", "1", 1, 0)}
	done(t, a.Append(l))
	l[0] = putOf(4, 1, "b", "2", 1, 0)
	at, _ := a.Bucket(4)
	if v, err := a.Value(at, "a"); err != nil || v != "1" || at.Keys() != 1 {
		t.Error(v, err)
	}
}

// P18.1: a log whose merge was begun, and not adopted, has none of what the merge wrote.
func TestOpenedAheadOfAdopt(t *testing.T) {
	d := disk.New(room)
	s := open(t, d, wide)
	must(t, s, 4, 0)
	before := picture(t, s)
	files := d.List()
	done(t, s.Log().Begin())
	_, err := s.Log().Append([]api.Record{bucketOf(5, 1, budget(0), 1, 2)})
	done(t, err)
	s = open(t, d, wide)
	if picture(t, s) != before || !s.Log().Begun() || !slices.Equal(d.List(), files) {
		t.Error(picture(t, s), s.Log().Begun(), d.List())
	}
	_, pieces, _, err := seglog.Open(d, wide.Limit)
	if err != nil || len(pieces) != 1 {
		t.Error(pieces, err)
	}
}

// P18.1: Open of a disk that has all has no effects, but for the manifest's.
func TestOpenLeavesTheLog(t *testing.T) {
	d := disk.New(room)
	s := open(t, d, wide)
	must(t, s, 4, 0)
	before, effects := filesOf(t, d), d.Effects()
	open(t, d, wide)
	if !maps.Equal(filesOf(t, d), before) || d.Effects() != effects {
		t.Error(d.Effects() - effects)
	}
}

// filesOf are a disk's files.
func filesOf(t *testing.T, d *disk.Disk) map[string]string {
	t.Helper()
	m := map[string]string{}
	for _, name := range d.List() {
		n, err := d.Len(name)
		done(t, err)
		b, err := d.Read(name, 0, n)
		done(t, err)
		m[name] = string(b)
	}
	return m
}
