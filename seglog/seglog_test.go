package seglog_test

import (
	"fmt"
	"math"
	"slices"
	"strings"
	"testing"

	"hassock/api"
	"hassock/disk"
	"hassock/seglog"
)

// P8.2
func TestAppendFillsASegment(t *testing.T) {
	d := disk.New(room)
	l := open(t, d, 100)
	first := seg{number: 1}
	for i := range 7 {
		r := drop(uint32(i + 1))
		appends(t, "into the first", l, r, api.Spot{Seg: 1, At: 14 * i, Len: 14})
		first.frames = append(first.frames, r)
		tells(t, "the first", l, false, first)
	}
	appends(t, "into the next", l, drop(8), api.Spot{Seg: 2, At: 0, Len: 14})
	segs := []seg{first, {2, [][]api.Record{drop(8)}}}
	tells(t, "two", l, false, segs...)
	hasFiles(t, "two", d, files{"m": manifestOf(0, 0, 1, 2), "s1": bytesOf(t, first.frames...), "s2": bytesOf(t, drop(8))})
	opens(t, "two, again", d, 100, false, segs...)
}

// P8.2: what just fits, and one byte more.
func TestAppendToTheLimit(t *testing.T) {
	for _, limit := range []int{100, 101, 1000, 30000} {
		for ahead := range 3 {
			for _, more := range []int{-1, 0, 1} {
				what := fmt.Sprintf("a limit of %d, %d ahead, %d more", limit, ahead, more)
				d := disk.New(room)
				l := open(t, d, limit)
				for range ahead {
					_, err := l.Append(drop(1))
					done(t, err)
				}
				left := limit + more - 14*ahead
				if left > 20008 {
					_, err := l.Append(ofSize(t, left-15000))
					done(t, err)
					left = 15000
				}
				used := l.Bytes()
				want := api.Spot{Seg: 1, At: used, Len: left}
				if more > 0 && used > 0 {
					want = api.Spot{Seg: 2, At: 0, Len: left}
				}
				r := ofSize(t, left)
				appends(t, what, l, r, want)
				reads(t, what, l, want, r)
				if l.Bytes() != limit+more {
					t.Errorf("%s: %d bytes", what, l.Bytes())
				}
			}
		}
	}
}

// P8.2: a frame that is longer than the limit has a segment of its own.
func TestAppendOfMoreThanTheLimit(t *testing.T) {
	for _, size := range []int{101, 5000, 20008} {
		what := fmt.Sprintf("%d bytes", size)
		d := disk.New(room)
		l := open(t, d, 100)
		long := ofSize(t, size)
		appends(t, what+" into an empty one", l, long, api.Spot{Seg: 1, At: 0, Len: size})
		appends(t, what+" behind a long one", l, long, api.Spot{Seg: 2, At: 0, Len: size})
		appends(t, what+", then a short one", l, drop(1), api.Spot{Seg: 3, At: 0, Len: 14})
		appends(t, what+" behind a short one", l, long, api.Spot{Seg: 4, At: 0, Len: size})
		segs := []seg{{1, [][]api.Record{long}}, {2, [][]api.Record{long}}, {3, [][]api.Record{drop(1)}}, {4, [][]api.Record{long}}}
		tells(t, what, l, false, segs...)
		l = opens(t, what+", again", d, 100, false, segs...)
		appends(t, what+", then a short one, again", l, drop(2), api.Spot{Seg: 5, At: 0, Len: 14})
		appends(t, what+", another limit", open(t, d, 1<<30), long, api.Spot{Seg: 5, At: 14, Len: size})
	}
}

// P8.2: the limit is the one of this Open, and the number one more than the last one's.
func TestAppendBehindSegmentsThatAreThere(t *testing.T) {
	f, segs := threeSegments(t)
	size := len(f["s40"])
	for _, c := range []struct {
		limit int
		want  api.Spot
	}{{size + 13, api.Spot{Seg: 41, Len: 14}}, {size + 14, api.Spot{Seg: 40, At: size, Len: 14}}} {
		d := diskOf(t, room, f)
		l := opens(t, "three", d, c.limit, false, segs...)
		appends(t, "three", l, drop(9), c.want)
		reads(t, "three", l, c.want, drop(9))
		reads(t, "three", l, api.Spot{Seg: 3, Len: 14}, drop(2))
	}
	d := diskOf(t, room, f.with("m", manifestOf(0, 1, 2, 3, 40)))
	l := open(t, d, 100)
	appends(t, "begun", l, drop(9), api.Spot{Seg: 41, Len: 14})
	tells(t, "begun", l, true, append(segs, seg{41, [][]api.Record{drop(9)}})...)
	opens(t, "begun, again", d, 100, true, append(segs, seg{41, [][]api.Record{drop(9)}})...)
}

// P8.2: each refused, without an effect, and what comes next is as if they had not been asked for.
func TestAppendOfWhatMayNotBe(t *testing.T) {
	bad := drop(1)
	bad[0].Key = "a field that its kind doesn't name"
	tooLong := slices.Repeat(ofSize(t, 20008), 2)
	d := disk.New(room)
	l := open(t, d, 100)
	effects := d.Effects()
	for what, r := range map[string][]api.Record{
		"nil": nil, "none": {}, "a zero one": {{}}, "generation 0": drop(0), "a field too many": bad,
		"a bad one behind a good one": append(drop(1), bad...), "a bad one ahead of it": append(bad, drop(1)...),
		"too many": tooLong, "too many small ones": slices.Repeat(drop(1), 3334),
	} {
		noSpot(t, what, l, r, api.ErrArg)
	}
	if d.Effects() != effects {
		t.Errorf("%d effects", d.Effects()-effects)
	}
	tells(t, "refused", l, false, seg{number: 1})
	appends(t, "as much as may be", l, slices.Repeat(drop(1), 3333), api.Spot{Seg: 1, At: 0, Len: 8 + 6*3333})
	d.Plan(0, 0)
	noSpot(t, "with a plan for now", l, nil, api.ErrArg)
	if d.Down() {
		t.Error("a list of no records was an effect")
	}
}

// P8.2
func TestAppendOfManyRecords(t *testing.T) {
	d := disk.New(room)
	l := open(t, d, 1<<30)
	one := seg{number: 1}
	for count := 1; count <= 200; count++ {
		var r []api.Record
		for i := range count {
			r = append(r, each()[(count+i)%7])
		}
		_, err := l.Append(r)
		done(t, err)
		one.frames = append(one.frames, r)
	}
	tells(t, "many", l, false, one)
	opens(t, "many, again", d, 100, false, one)
}

// P8.2
func TestReadOfNoSuchSegment(t *testing.T) {
	f, _ := threeSegments(t)
	d := diskOf(t, room, f)
	l := open(t, d, 100)
	for _, number := range []int{math.MinInt, -40, -2, -1, 0, 1, 4, 39, 41, 1<<32 + 2, math.MaxInt} {
		for _, s := range []api.Spot{{At: 0, Len: 14}, {At: 0, Len: 0}, {At: -1, Len: -1}, {At: 0, Len: 1 << 30}} {
			s.Seg = number
			noRecords(t, fmt.Sprint(s), l, s, api.ErrNone)
		}
	}
	done(t, d.Create("s4"))
	done(t, d.Append("s4", []byte(bytesOf(t, drop(1)))))
	noRecords(t, "a file that isn't told", l, api.Spot{Seg: 4, Len: 14}, api.ErrNone)
}

// P8.2
func TestReadOfNoFrame(t *testing.T) {
	f, segs := threeSegments(t)
	d := diskOf(t, room, f)
	l := open(t, d, 100)
	effects := d.Effects()
	others := func(n int) []int {
		return []int{math.MinInt, -14, -1, 0, 1, n - 1, n + 1, 2 * n, 1 << 30, math.MaxInt - 1, math.MaxInt}
	}
	for _, s := range segs {
		at := 0
		for _, r := range s.frames {
			n := len(frameOf(t, r))
			for _, other := range others(n) {
				noRecords(t, "another length", l, api.Spot{Seg: s.number, At: at, Len: other}, api.ErrForm)
			}
			for _, other := range []int{math.MinInt, -n, -1, at + 1, at + n - 1, at + 1000, math.MaxInt - n, math.MaxInt} {
				noRecords(t, "another place", l, api.Spot{Seg: s.number, At: other, Len: n}, api.ErrForm)
			}
			at += n
		}
		noRecords(t, "all of it and more", l, api.Spot{Seg: s.number, At: 0, Len: at + 1}, api.ErrForm)
		noRecords(t, "behind the end", l, api.Spot{Seg: s.number, At: at, Len: 14}, api.ErrForm)
		noRecords(t, "nothing at the end", l, api.Spot{Seg: s.number, At: at, Len: 0}, api.ErrForm)
		if len(s.frames) > 1 {
			noRecords(t, "all frames", l, api.Spot{Seg: s.number, At: 0, Len: at}, api.ErrForm)
		}
	}
	tells(t, "what is refused changes nothing", l, false, segs...)
	if d.Effects() != effects {
		t.Errorf("%d effects", d.Effects()-effects)
	}
}

// P8.2: of each place and each length in a segment there is a frame at just those where one was put.
func TestReadOfEachPlaceAndLength(t *testing.T) {
	l := open(t, disk.New(room), 1000)
	frames := [][]api.Record{drop(1), each()[2:4], drop(0x01000000)}
	at := map[int]int{} // each frame's place, and its length
	for _, r := range frames {
		s, err := l.Append(r)
		done(t, err)
		at[s.At] = s.Len
	}
	for place := -2; place <= l.Bytes()+2; place++ {
		for n := -2; n <= l.Bytes()+2; n++ {
			if length, is := at[place]; !is || n != length {
				noRecords(t, fmt.Sprint(place, n), l, api.Spot{Seg: 1, At: place, Len: n}, api.ErrForm)
			}
		}
	}
}

// P8.2: what lies there is read, whoever wrote it.
func TestReadOfWhatIsNoRecords(t *testing.T) {
	for what, b := range notWhole(t) {
		d := disk.New(room)
		l := open(t, d, 100)
		done(t, d.Append("s1", []byte(b)))
		noRecords(t, what, l, api.Spot{Seg: 1, At: 0, Len: len(b)}, api.ErrForm)
	}
	inner := drop(7)
	outer := []api.Record{{Kind: api.RPut, Gen: 1, Key: "k", Val: frameOf(t, inner)}}
	l := open(t, disk.New(room), 100)
	s, err := l.Append(outer)
	done(t, err)
	reads(t, "a frame in a value", l, api.Spot{Seg: 1, At: s.Len - 14, Len: 14}, inner)
}

// P8.2
func TestReadOfADiskThatIsDown(t *testing.T) {
	f, segs := threeSegments(t)
	d := diskOf(t, room, f)
	l := open(t, d, 100)
	fall(t, d, 0)
	noRecords(t, "no such segment", l, api.Spot{Seg: 1, Len: 14}, api.ErrNone)
	if n := l.Segments(); !slices.Equal(n, []int{2, 3, 40}) || l.Bytes() != d.Used()-len(f["m"]) {
		t.Error(n, l.Bytes())
	}
	noRecords(t, "no frame", l, api.Spot{Seg: 3, At: 1, Len: 14}, api.ErrDisk)
	noRecords(t, "a frame", l, api.Spot{Seg: 3, Len: 14}, api.ErrDisk)
	d.Open()
	noRecords(t, "up again, but not opened", l, api.Spot{Seg: 3, Len: 14}, api.ErrDisk)
	noSpot(t, "up again, but not opened", l, drop(1), api.ErrDisk)
	is(t, "up again, but not opened", l.Begin(), api.ErrDisk)
	opens(t, "opened", d, 100, false, segs...)
}

// merge is a log of two segments, and the next one, in which a merge was begun.
func merge(t *testing.T) (*disk.Disk, []seg) {
	t.Helper()
	d := disk.New(room)
	l := open(t, d, 100)
	for i := range 8 {
		_, err := l.Append(drop(uint32(i + 1)))
		done(t, err)
	}
	one := seg{number: 1}
	for i := range 7 {
		one.frames = append(one.frames, drop(uint32(i+1)))
	}
	return d, []seg{one, {2, [][]api.Record{drop(8)}}}
}

// P8.3
func TestBegin(t *testing.T) {
	d, segs := merge(t)
	before := filesOf(t, d)
	l := opens(t, "ahead", d, 100, false, segs...)
	is(t, "Begin", l.Begin(), 0)
	tells(t, "begun", l, true, append(segs, seg{number: 3})...)
	hasFiles(t, "begun", d, before.with("m", manifestOf(3, 1, 1, 2, 3)).with("s3", ""))

	l = opens(t, "opened", d, 100, true, segs...)
	hasFiles(t, "opened", d, before.with("m", manifestOf(0, 1, 1, 2)))
	is(t, "Adopt, opened", l.Adopt(), api.ErrArg)
	appends(t, "opened", l, drop(9), api.Spot{Seg: 2, At: 14, Len: 14})
	segs[1].frames = append(segs[1].frames, drop(9))
	opens(t, "opened again", d, 100, true, segs...)
}

// P8.3: what is appended goes into the next segment, and those behind it.
func TestBeginAndAppend(t *testing.T) {
	d, segs := merge(t)
	before := filesOf(t, d)
	l := open(t, d, 100)
	done(t, l.Begin())
	third, fourth := seg{number: 3}, seg{4, [][]api.Record{drop(108)}}
	for i := range 7 {
		appends(t, "begun", l, drop(uint32(101+i)), api.Spot{Seg: 3, At: 14 * i, Len: 14})
		third.frames = append(third.frames, drop(uint32(101+i)))
	}
	appends(t, "begun", l, drop(108), api.Spot{Seg: 4, Len: 14})
	tells(t, "begun", l, true, append(segs, third, fourth)...)
	hasFiles(t, "begun", d, before.with("m", manifestOf(3, 1, 1, 2, 3, 4)).with("s3", bytesOf(t, third.frames...)).with("s4", bytesOf(t, drop(108))))
	opens(t, "opened", d, 100, true, segs...)
	hasFiles(t, "opened", d, before.with("m", manifestOf(0, 1, 1, 2)))
}

// P8.3
func TestAdopt(t *testing.T) {
	d, _ := merge(t)
	l := open(t, d, 100)
	done(t, l.Begin())
	is(t, "Adopt of nothing", l.Adopt(), 0)
	tells(t, "nothing", l, false, seg{number: 3})
	hasFiles(t, "nothing", d, files{"m": manifestOf(0, 0, 3), "s3": ""})
	is(t, "Adopt again", l.Adopt(), api.ErrArg)
	noRecords(t, "a segment that is gone", l, api.Spot{Seg: 1, Len: 14}, api.ErrNone)
	appends(t, "adopted", l, drop(1), api.Spot{Seg: 3, Len: 14})
	opens(t, "opened", d, 100, false, seg{3, [][]api.Record{drop(1)}})
}

// P8.3
func TestAdoptOfManySegments(t *testing.T) {
	d, _ := merge(t)
	l := open(t, d, 100)
	done(t, l.Begin())
	var segs []seg
	for i := range 12 {
		r := drop(uint32(201 + i))
		if s, err := l.Append(r); err != nil || s.Seg < 3 {
			t.Fatal(s, err)
		}
		if i%7 == 0 {
			segs = append(segs, seg{number: 3 + i/7})
		}
		segs[i/7].frames = append(segs[i/7].frames, r)
	}
	is(t, "Adopt", l.Adopt(), 0)
	tells(t, "adopted", l, false, segs...)
	hasFiles(t, "adopted", d, files{"m": manifestOf(0, 0, 3, 4), "s3": bytesOf(t, segs[0].frames...), "s4": bytesOf(t, segs[1].frames...)})
	appends(t, "adopted", l, drop(1), api.Spot{Seg: 4, At: 70, Len: 14})
	segs[1].frames = append(segs[1].frames, drop(1))
	tells(t, "and appended", l, false, segs...)
	opens(t, "opened", d, 100, false, segs...)
}

// P8.3
func TestAdoptWithoutBegin(t *testing.T) {
	d, segs := merge(t)
	before := filesOf(t, d)
	l := open(t, d, 100)
	effects := d.Effects()
	for range 2 {
		is(t, "Adopt", l.Adopt(), api.ErrArg)
	}
	tells(t, "refused", l, false, segs...)
	hasFiles(t, "refused", d, before)
	if d.Effects() != effects {
		t.Errorf("%d effects", d.Effects()-effects)
	}
	appends(t, "refused", l, drop(9), api.Spot{Seg: 2, At: 14, Len: 14})
	fall(t, d, 0)
	is(t, "Adopt, down", l.Adopt(), api.ErrArg)
}

// P8.3: the base is the number of the segment that the last Begin created.
func TestBeginAgain(t *testing.T) {
	for _, between := range []int{0, 1} {
		d, segs := merge(t)
		l := open(t, d, 100)
		done(t, l.Begin())
		third := seg{number: 3}
		if between > 0 {
			appends(t, "the first", l, drop(50), api.Spot{Seg: 3, Len: 14})
			third.frames = append(third.frames, drop(50))
		}
		is(t, "again", l.Begin(), 0)
		appends(t, "again", l, drop(51), api.Spot{Seg: 4, Len: 14})
		tells(t, "again", l, true, append(segs, third, seg{4, [][]api.Record{drop(51)}})...)
		if m := filesOf(t, d)["m"]; m != manifestOf(4, 1, 1, 2, 3, 4) {
			t.Errorf("the manifest is %q", m)
		}
		opens(t, "opened", d, 100, true, append(segs, third)...)
	}
	d, _ := merge(t)
	l := open(t, d, 100)
	done(t, l.Begin())
	done(t, l.Begin())
	appends(t, "again", l, drop(51), api.Spot{Seg: 4, Len: 14})
	is(t, "Adopt", l.Adopt(), 0)
	tells(t, "adopted", l, false, seg{4, [][]api.Record{drop(51)}})
	hasFiles(t, "adopted", d, files{"m": manifestOf(0, 0, 4), "s4": bytesOf(t, drop(51))})
}

// P8.3: merge behind merge.
func TestManyMerges(t *testing.T) {
	d := disk.New(room)
	l := open(t, d, 100)
	for n := 2; n <= 40; n++ {
		done(t, l.Begin())
		appends(t, "a merge", l, drop(uint32(n)), api.Spot{Seg: n, Len: 14})
		if n%2 == 0 {
			done(t, l.Adopt())
			l = opens(t, "opened", d, 100, false, seg{n, [][]api.Record{drop(uint32(n))}})
			continue
		}
		l = opens(t, "opened", d, 100, true, seg{n - 1, [][]api.Record{drop(uint32(n - 1))}})
		done(t, l.Begin())
		appends(t, "the same merge", l, drop(uint32(n)), api.Spot{Seg: n, Len: 14})
		done(t, l.Adopt())
		l = opens(t, "opened again", d, 100, false, seg{n, [][]api.Record{drop(uint32(n))}})
	}
}

// P8.1: no log knows of another.
func TestTwoLogs(t *testing.T) {
	a, b := disk.New(room), disk.New(room)
	x, y := open(t, a, 100), open(t, b, 200)
	for i := range 10 {
		_, err := x.Append(drop(uint32(i + 1)))
		done(t, err)
	}
	appends(t, "the other one", y, each(), api.Spot{Seg: 1, Len: len(frameOf(t, each()))})
	done(t, x.Begin())
	fall(t, a, 0)
	noSpot(t, "the one", x, drop(1), api.ErrDisk)
	tells(t, "the other one", y, false, seg{1, [][]api.Record{each()}})
	appends(t, "the other one", y, drop(1), api.Spot{Seg: 1, At: len(frameOf(t, each())), Len: 14})
}

// P8.4
func TestWhatIsAppendedIsNotKept(t *testing.T) {
	l := open(t, disk.New(room), 1000)
	memory := append(each(), drop(99)...)
	was := slices.Clone(memory)
	r := memory[:7]
	s, err := l.Append(r)
	done(t, err)
	if !slices.Equal(memory, was) {
		t.Error("the records were changed")
	}
	for i := range memory {
		memory[i] = api.Record{}
	}
	reads(t, "changed", l, s, each())
	appends(t, "behind", l, drop(1), api.Spot{Seg: 1, At: s.Len, Len: 14})
	opens(t, "changed, and opened again", func() *disk.Disk {
		d := disk.New(room)
		r := each()
		_, err := open(t, d, 1000).Append(r)
		done(t, err)
		clear(r)
		return d
	}(), 1000, false, seg{1, [][]api.Record{each()}})
}

// P8.4
func TestWhatIsToldMayBeChanged(t *testing.T) {
	f, segs := threeSegments(t)
	l := open(t, diskOf(t, room, f), 1000)
	r, err := l.Read(api.Spot{Seg: 2, Len: len(frameOf(t, each()))})
	done(t, err)
	clear(r)
	n := l.Segments()
	clear(n)
	_ = append(n[:1], 77, 78)
	tells(t, "changed", l, false, segs...)
	_ = append(l.Segments(), 99)
	done(t, l.Begin())
	tells(t, "begun", l, true, append(segs, seg{number: 41})...)
	old := l.Segments()
	done(t, l.Adopt())
	if !slices.Equal(old, []int{2, 3, 40, 41}) {
		t.Error("what was told became", old)
	}
	done(t, l.Begin())
	if n := l.Segments(); !slices.Equal(n, []int{41, 42}) {
		t.Error(n)
	}
}

// P8.2: a disk that has room for some frames, and for the next manifest or not.
func TestAppendToAFullDisk(t *testing.T) {
	first := len(manifestOf(0, 0, 1))
	d := disk.New(first + 50)
	l := open(t, d, 100)
	one := seg{number: 1}
	for i := range 3 {
		appends(t, "some", l, drop(1), api.Spot{Seg: 1, At: 14 * i, Len: 14})
		one.frames = append(one.frames, drop(1))
	}
	noSpot(t, "full", l, drop(2), api.ErrSpace)
	dead(t, "full", d, l, api.ErrArg, 1)
	l = opens(t, "opened", d, 100, false, one)
	noSpot(t, "full again", l, ofSize(t, 35), api.ErrSpace)
	dead(t, "full again", d, l, api.ErrArg, 1)

	// As many bytes as a segment's: then the next one's manifest has no room.
	second := len(manifestOf(0, 0, 1, 2))
	for _, less := range []int{1, 0} {
		d = disk.New(first + 98 + second - less)
		l = open(t, d, 100)
		one = seg{number: 1}
		for range 7 {
			_, err := l.Append(drop(1))
			done(t, err)
			one.frames = append(one.frames, drop(1))
		}
		if less == 1 {
			noSpot(t, "no room for the manifest", l, drop(2), api.ErrSpace)
			dead(t, "no room for the manifest", d, l, api.ErrArg, 1)
			opens(t, "no room for the manifest, opened", d, 100, false, one)
			hasFiles(t, "no room for the manifest, opened", d, files{"m": manifestOf(0, 0, 1), "s1": bytesOf(t, one.frames...)})
			continue
		}
		appends(t, "room for the manifest", l, drop(2), api.Spot{Seg: 2, Len: 14})
	}
}

// P8.3
func TestMergeOnAFullDisk(t *testing.T) {
	d := disk.New(len(manifestOf(0, 0, 1)) + 50)
	l := open(t, d, 100)
	appends(t, "some", l, ofSize(t, 40), api.Spot{Seg: 1, Len: 40})
	is(t, "Begin", l.Begin(), api.ErrSpace)
	if l.Begun() {
		t.Error("it was begun")
	}
	dead(t, "Begin", d, l, api.ErrArg, 1)
	one := seg{1, [][]api.Record{ofSize(t, 40)}}
	opens(t, "Begin, opened", d, 100, false, one)

	d = disk.New(len(manifestOf(0, 0, 1)) + len(manifestOf(2, 1, 1, 2)) + 40)
	l = open(t, d, 100)
	appends(t, "some", l, ofSize(t, 40), api.Spot{Seg: 1, Len: 40})
	is(t, "Begin", l.Begin(), 0)
	appends(t, "begun", l, drop(1), api.Spot{Seg: 2, Len: 14})
	is(t, "Adopt", l.Adopt(), api.ErrSpace)
	if !l.Begun() {
		t.Error("it was adopted")
	}
	dead(t, "Adopt", d, l, api.ErrDisk, 1)
}

// P8.2, P8.3: as many files as there may be.
func TestAllFiles(t *testing.T) {
	f := files{}
	var l []uint32
	for n := 1; n < api.MaxFiles-2; n++ {
		l = append(l, uint32(n))
		f[name(n)] = bytesOf(t, drop(uint32(n)))
	}
	f["m"] = manifestOf(0, 0, l...)
	last := api.MaxFiles - 3

	// Room for one more segment, and "t" beside it.
	d := diskOf(t, room, f)
	x := open(t, d, 100)
	appends(t, "into the last one", x, ofSize(t, 86), api.Spot{Seg: last, At: 14, Len: 86})
	appends(t, "into the next one", x, drop(1), api.Spot{Seg: last + 1, Len: 14})
	is(t, "Begin", x.Begin(), api.ErrSpace)
	dead(t, "Begin", d, x, api.ErrArg, 1)
	x = open(t, d, 100)
	appends(t, "opened", x, ofSize(t, 86), api.Spot{Seg: last + 1, At: 14, Len: 86})
	noSpot(t, "opened", x, drop(2), api.ErrSpace)
	dead(t, "opened", d, x, api.ErrArg, 1)
	if n := len(open(t, d, 100).Segments()); n != last+1 {
		t.Errorf("%d segments", n)
	}
}

// P8.2, P8.3: what each call tells once one told an error of the disk, whether that is up or down; no call has an effect then.
func dead(t *testing.T, what string, d *disk.Disk, l *seglog.Log, adopt api.Code, known int) {
	t.Helper()
	effects, begun := d.Effects(), l.Begun()
	what = "behind an error, " + what
	for range 2 {
		for _, r := range [][]api.Record{nil, drop(0), append(drop(1), api.Record{}), slices.Repeat(drop(1), 3334)} {
			noSpot(t, what+": of what may not be", l, r, api.ErrArg)
		}
		for _, r := range [][]api.Record{drop(1), each(), ofSize(t, 20008)} {
			noSpot(t, what, l, r, api.ErrDisk)
		}
		is(t, what+": Begin", l.Begin(), api.ErrDisk)
		is(t, what+": Adopt", l.Adopt(), adopt)
		for _, s := range []api.Spot{{}, {Seg: -1, Len: 14}, {Seg: 1 << 20, Len: 14}} {
			noRecords(t, what+": of no segment", l, s, api.ErrNone)
		}
		for _, s := range []api.Spot{{Len: 14}, {At: 1, Len: 14}, {At: -1}, {At: 1 << 30, Len: 14}} {
			s.Seg = known
			noRecords(t, what, l, s, api.ErrDisk)
		}
		l.Segments()
		l.Bytes()
		if l.Begun() != begun {
			t.Error(what, "Begun changed")
		}
	}
	if d.Effects() != effects {
		t.Errorf("%s: %d effects", what, d.Effects()-effects)
	}
}

// P8.2, P8.3: the disk's errors are told, where somebody else changed it.
func TestADiskThatSomebodyElseChanged(t *testing.T) {
	append90 := func(l *seglog.Log) error {
		_, err := l.Append(ofSize(t, 90))
		return err
	}
	for what, call := range map[string]func(*seglog.Log) error{"Begin": (*seglog.Log).Begin, "Append": append90} {
		d, segs := merge(t)
		l := open(t, d, 100)
		done(t, d.Create("s3"))
		before := filesOf(t, d)
		is(t, what, call(l), api.ErrTwice)
		dead(t, what, d, l, api.ErrArg, 1)
		hasFiles(t, what, d, before)
		opens(t, what, d, 100, false, segs...)
	}
	d, segs := merge(t)
	l := open(t, d, 100)
	done(t, d.Delete("s2"))
	noSpot(t, "a segment that is gone", l, drop(1), api.ErrNone)
	dead(t, "a segment that is gone", d, l, api.ErrArg, 1)
	refuses(t, "a segment that is gone", d, 100, api.ErrForm)
	done(t, d.Create("s2"))
	opens(t, "a segment that is there again", d, 100, false, segs[0], seg{number: 2})
}

// P1: any spots, of any log.
func TestReadOfAnySpot(t *testing.T) {
	f, _ := threeSegments(t)
	l := open(t, diskOf(t, room, f.with("s40", f["s40"]+strings.Repeat("\xff", 9))), 100)
	odd := []int{math.MinInt, math.MinInt32, -20008, -2, -1, 0, 1, 2, 3, 13, 14, 40, 41, 20008, math.MaxInt32, math.MaxUint32, math.MaxInt - 14, math.MaxInt - 1, math.MaxInt}
	for _, number := range odd {
		for _, at := range odd {
			for _, n := range odd {
				r, err := l.Read(api.Spot{Seg: number, At: at, Len: n})
				if (err == nil) != (len(r) > 0) {
					t.Errorf("%d, %d, %d: %v, %v", number, at, n, r, err)
				}
			}
		}
	}
}
