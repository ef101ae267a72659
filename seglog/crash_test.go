package seglog_test

import (
	"fmt"
	"math/rand"
	"slices"
	"testing"

	"hassock/api"
	"hassock/disk"
	"hassock/seglog"
)

// entry is a frame of a log: its records, and where it lies.
type entry struct {
	r []api.Record
	s api.Spot
}

// model is a log without segments: what it has, and what was written of a merge that isn't adopted.
type model struct {
	had     []entry
	merge   []entry
	merging bool // there is a base
	begun   bool
}

// all is what there is to be read.
func (m model) all() []entry { return append(slices.Clone(m.had), m.merge...) }

// opened is what an Open leaves.
func (m model) opened() model { return model{had: m.had, begun: m.begun} }

// appended is m with a frame more.
func (m model) appended(e entry) model {
	if m.merging {
		m.merge = append(slices.Clone(m.merge), e)
	} else {
		m.had = append(slices.Clone(m.had), e)
	}
	return m
}

// begin is m with a merge begun: of one that was begun ahead of it, what was written is no more apart.
func (m model) begin() model { return model{had: m.all(), merging: true, begun: true} }

// adopted is m, where just what the merge wrote is left.
func (m model) adopted() model { return model{had: m.merge} }

// same tells whether pieces are what a model has, where it has it.
func (m model) same(pieces [][]api.Record, spots []api.Spot, begun bool) bool {
	if len(pieces) != len(m.had) || len(spots) != len(m.had) || begun != m.begun {
		return false
	}
	for i, e := range m.had {
		// An entry that was under way when it went down has no spot.
		if !slices.Equal(e.r, pieces[i]) || e.s != (api.Spot{}) && e.s != spots[i] {
			return false
		}
	}
	return true
}

// crasher is a log under a script, and what it may have.
type crasher struct {
	t      *testing.T
	random *rand.Rand
	d      *disk.Disk
	limit  int
	l      *seglog.Log
	m      model
	gen    uint32 // of the next record
}

// any is the next list of records: each one another.
func (c *crasher) any() []api.Record {
	var r []api.Record
	for range 1 + c.random.Intn(4) {
		c.gen++
		r = append(r, drop(c.gen)...)
		if c.random.Intn(6) == 0 {
			r = append(r, api.Record{Kind: api.RPut, Gen: c.gen, Key: "k", Val: string(make([]byte, c.random.Intn(300)))})
		}
	}
	return r
}

// one does a call; told are its error, what the model is behind it, and what it is if nothing is done.
func (c *crasher) one() (what string, err error, behind model) {
	switch c.random.Intn(10) {
	case 0, 1:
		return "Begin", c.l.Begin(), c.m.begin()
	case 2, 3:
		if !c.m.merging {
			is(c.t, "Adopt", c.l.Adopt(), api.ErrArg)
			return "Adopt of none", nil, c.m
		}
		return "Adopt", c.l.Adopt(), c.m.adopted()
	case 4:
		l, pieces, spots, err := seglog.Open(c.d, c.limit)
		if err == nil {
			c.l = l
			c.mustBe("Open", parts(pieces), spots, c.m.opened())
		}
		return "Open", err, c.m.opened()
	}
	r := c.any()
	s, err := c.l.Append(r)
	return "Append", err, c.m.appended(entry{r, s})
}

// mustBe tells of what Open told that it must be one of these, and goes on with it.
func (c *crasher) mustBe(what string, pieces [][]api.Record, spots []api.Spot, any ...model) {
	c.t.Helper()
	for _, m := range any {
		if m.same(pieces, spots, c.l.Begun()) {
			c.m = m
			for i := range c.m.had {
				c.m.had[i].s = spots[i]
			}
			return
		}
	}
	c.t.Fatalf("%s: %v, begun %v, aren't %v", what, pieces, c.l.Begun(), any)
}

// reopen brings the disk up, and opens the log, which may go down meanwhile.
func (c *crasher) reopen(what string, any ...model) {
	c.t.Helper()
	for {
		c.d.Open()
		if c.random.Intn(3) > 0 {
			c.d.Plan(c.random.Intn(9), c.random.Intn(40))
		}
		l, pieces, spots, err := seglog.Open(c.d, c.limit)
		if err == nil {
			c.d.Open()
			c.l = l
			c.mustBe(what, parts(pieces), spots, any...)
			return
		}
		if err != error(api.ErrDisk) || !c.d.Down() {
			c.t.Fatalf("%s: %v", what, err)
		}
	}
}

// readsAll tells of a log that it must read what it has, where it was told to be, in segments that aren't too long.
func (c *crasher) readsAll(what string) {
	c.t.Helper()
	bytes, ends := 0, map[int]int{}
	segments := c.l.Segments()
	last := api.Spot{}
	for _, e := range c.m.all() {
		reads(c.t, what, c.l, e.s, e.r)
		bytes += e.s.Len
		if e.s.At != ends[e.s.Seg] || e.s.Seg < last.Seg || !slices.Contains(segments, e.s.Seg) {
			c.t.Fatalf("%s: %v behind %v", what, e.s, last)
		}
		ends[e.s.Seg] += e.s.Len
		if ends[e.s.Seg] > c.limit && e.s.At > 0 {
			c.t.Fatalf("%s: segment %d has %d bytes", what, e.s.Seg, ends[e.s.Seg])
		}
		last = e.s
	}
	if c.l.Bytes() != bytes || c.l.Begun() != c.m.begun || !slices.IsSorted(segments) || len(segments) == 0 {
		c.t.Fatalf("%s: %d bytes, begun %v, segments %v, not %d, %v", what, c.l.Bytes(), c.l.Begun(), segments, bytes, c.m.begun)
	}
	if n := len(c.d.List()); n != len(segments)+1 {
		c.t.Fatalf("%s: %d files, %d segments", what, n, len(segments))
	}
	if c.t.Failed() {
		c.t.FailNow()
	}
}

// P8.5: any calls, with crashes at any effect, also while it is opened again.
func TestAnyCallsWithCrashes(t *testing.T) {
	for script := range 600 {
		random := rand.New(rand.NewSource(int64(script)))
		c := &crasher{t: t, random: random, d: disk.New(room), limit: 100 + random.Intn(300)}
		c.reopen("at first", model{})
		for step := range 60 {
			planned := random.Intn(3) == 0
			if planned {
				c.d.Plan(random.Intn(9), random.Intn(40))
			}
			what, err, behind := c.one()
			what = fmt.Sprintf("script %d, step %d, %s", script, step, what)
			switch {
			case err == nil:
				c.m = behind
			case planned && c.d.Down():
				is(t, what, err, api.ErrDisk)
				c.reopen(what, c.m.opened(), behind.opened())
			default:
				t.Fatalf("%s: %v", what, err)
			}
			c.d.Open()
			c.readsAll(what)
		}
	}
}

// P8.5: a call at each of its effects, with each number of bytes kept, and then two more crashes, at each effect, while it is opened again.
func TestEachCrashOfEachCall(t *testing.T) {
	begun := func(l *seglog.Log) {
		done(t, l.Begin())
		for i := range 8 {
			_, err := l.Append(drop(uint32(100 + i)))
			done(t, err)
		}
	}
	_, segs := merge(t)
	with9 := []seg{segs[0], {2, [][]api.Record{drop(8), drop(9)}}}
	rolled := []seg{segs[0], segs[1], {3, [][]api.Record{ofSize(t, 90)}}}
	var merged seg
	merged.number = 3
	for i := range 7 {
		merged.frames = append(merged.frames, drop(uint32(100+i)))
	}
	adopted := []seg{merged, {4, [][]api.Record{drop(107)}}}
	put := func(r []api.Record) func(*seglog.Log) error {
		return func(l *seglog.Log) error {
			_, err := l.Append(r)
			return err
		}
	}
	quiet := func(*seglog.Log) {}
	for _, c := range []struct {
		what          string
		first         func(*seglog.Log)
		call          func(*seglog.Log) error
		begun, begins bool // ahead of the call, and behind it
		before, after []seg
	}{
		{"Append", quiet, put(drop(9)), false, false, segs, with9},
		{"Append to the next one", quiet, put(ofSize(t, 90)), false, false, segs, rolled},
		{"Append in a merge", begun, put(drop(9)), true, true, segs, segs},
		{"Append to the next one in a merge", begun, put(ofSize(t, 90)), true, true, segs, segs},
		{"Begin", quiet, (*seglog.Log).Begin, false, true, segs, segs},
		{"Adopt", begun, (*seglog.Log).Adopt, true, false, segs, adopted},
	} {
		for k := range 9 {
			for keep := range 30 {
				for again := range 9 {
					for third := range 3 {
						d, _ := merge(t)
						l := open(t, d, 100)
						c.first(l)
						d.Plan(k, keep)
						err := c.call(l)
						what := fmt.Sprintf("%s, down at effect %d, %d kept, then at %d, at %d", c.what, k, keep, again, third)
						isDone := err == nil
						if !isDone && !d.Down() {
							t.Fatal(what, err)
						}
						if isDone {
							fall(t, d, keep)
						}
						openWithCrashes(d, again, third)
						hasOneOf(t, what, d, isDone, c.begun, c.begins, c.before, c.after)
					}
				}
			}
		}
	}
}

// openWithCrashes opens a log on a disk, which goes down behind so many effects each time.
func openWithCrashes(d *disk.Disk, effects ...int) {
	for _, n := range effects {
		d.Open()
		d.Plan(n, n)
		_, _, _, _ = seglog.Open(d, 100)
	}
	d.Open()
}

// hasOneOf opens a log, which must have what it had, or, and that always if the call was done, what comes behind.
func hasOneOf(t *testing.T, what string, d *disk.Disk, isDone, begun, begins bool, before, after []seg) {
	t.Helper()
	l, pieces, _, err := seglog.Open(d, 100)
	if err != nil {
		t.Fatal(what, err)
	}
	isBefore := l.Begun() == begun && slices.EqualFunc(parts(pieces), framesOf(before), slices.Equal)
	isAfter := l.Begun() == begins && slices.EqualFunc(parts(pieces), framesOf(after), slices.Equal)
	if !isAfter && (isDone || !isBefore) {
		t.Fatalf("%s: %v, begun %v", what, pieces, l.Begun())
	}
}

// framesOf are all frames of segments.
func framesOf(segs []seg) [][]api.Record {
	var l [][]api.Record
	for _, s := range segs {
		l = append(l, s.frames...)
	}
	return l
}
