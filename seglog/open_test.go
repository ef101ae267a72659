package seglog_test

import (
	"fmt"
	"math"
	"slices"
	"strings"
	"testing"

	"hassock/api"
	"hassock/disk"
	"hassock/seglog"
)

// P8.1
func TestOpenOfALimit(t *testing.T) {
	for _, limit := range []int{100, 101, 4096, 1<<30 - 1, 1 << 30} {
		opens(t, fmt.Sprint("a limit of ", limit), disk.New(room), limit, false, seg{number: 1})
	}
	for _, limit := range []int{math.MinInt, -100, -1, 0, 1, 99, 1<<30 + 1, 1 << 31, math.MaxInt} {
		what := fmt.Sprint("a limit of ", limit)
		f := files{"m": "no manifest", "t": "", "s1": "", "x": "y"}
		d := diskOf(t, room, f)
		effects := d.Effects()
		refuses(t, what, d, limit, api.ErrArg)
		hasFiles(t, what, d, f)
		if d.Effects() != effects {
			t.Errorf("%s: %d effects", what, d.Effects()-effects)
		}
		fall(t, d, 0)
		refuses(t, what+", down", d, limit, api.ErrArg)
		if !d.Down() {
			t.Errorf("%s: it was brought up", what)
		}
	}
}

// P8.1
func TestOpenOfADiskThatIsDown(t *testing.T) {
	for what, f := range map[string]files{
		"a new disk":    {},
		"a good log":    {"m": manifestOf(0, 0, 1), "s1": ""},
		"no manifest":   {"x": ""},
		"a bad one":     {"m": "", "t": ""},
		"a segment off": {"m": manifestOf(0, 0, 1)},
	} {
		d := diskOf(t, room, f)
		fall(t, d, 0)
		refuses(t, what, d, 100, api.ErrDisk)
		if !d.Down() {
			t.Errorf("%s: it was brought up", what)
		}
		d.Open()
		hasFiles(t, what, d, f)
	}
}

// P8.1
func TestOpenOfANewDisk(t *testing.T) {
	d := disk.New(room)
	opens(t, "new", d, 100, false, seg{number: 1})
	// Byte for byte, not by what other layers tell.
	m := "\x0b\x00\x00\x00\x2d\xd6\x25\xcc\x04\x00\x01\x00\x00\x00\x00\x00\x00\x00\x00"
	hasFiles(t, "new", d, files{"m": m, "s1": ""})
	opens(t, "again", d, 1<<30, false, seg{number: 1})
	hasFiles(t, "again", d, files{"m": manifestOf(0, 0, 1), "s1": ""})
}

// P8.1: whatever the files are, also such as a log has.
func TestOpenWithoutAManifest(t *testing.T) {
	for what, f := range map[string]files{
		"a file":              {"a": "b"},
		"segments":            {"s1": bytesOf(t, drop(1)), "s2": bytesOf(t, drop(2)), "s10": ""},
		"the next manifest":   {"t": manifestOf(0, 0, 7), "s7": bytesOf(t, drop(7))},
		"the next one, cut":   {"t": manifestOf(0, 0, 7)[:9]},
		"names of all kinds":  {"": "1", "\x00": "2", "M": "3", "m ": "4", "mm": "5", "s": "6", "s01": "7", "\xff\xff": "8", "t ": "9"},
		"an empty file or so": {"s1": "", "s0": "", "u": ""},
	} {
		d := diskOf(t, room, f)
		l := opens(t, what, d, 100, false, seg{number: 1})
		hasFiles(t, what, d, files{"m": manifestOf(0, 0, 1), "s1": ""})
		appends(t, what, l, drop(5), api.Spot{Seg: 1, At: 0, Len: 14})
		opens(t, what, d, 100, false, seg{1, [][]api.Record{drop(5)}})
	}
}

// threeSegments is a disk's log with the numbers 2, 3 and 40.
func threeSegments(t *testing.T) (files, []seg) {
	t.Helper()
	segs := []seg{{2, [][]api.Record{each(), drop(1)}}, {3, [][]api.Record{drop(2)}}, {40, [][]api.Record{drop(3), each()[:3], drop(4)}}}
	f := files{"m": manifestOf(0, 0, 2, 3, 40)}
	for _, s := range segs {
		f[name(s.number)] = bytesOf(t, s.frames...)
	}
	return f, segs
}

// P8.1
func TestOpenOfManySegments(t *testing.T) {
	f, segs := threeSegments(t)
	for _, limit := range []int{100, 1 << 30} {
		d := diskOf(t, room, f)
		effects := d.Effects()
		opens(t, "three", d, limit, false, segs...)
		hasFiles(t, "three", d, f)
		if d.Effects() != effects {
			t.Errorf("%d effects, where nothing is to be changed", d.Effects()-effects)
		}
	}
	d := diskOf(t, room, f.with("m", manifestOf(0, 1, 2, 3, 40)))
	opens(t, "begun", d, 100, true, segs...)
	hasFiles(t, "begun", d, f.with("m", manifestOf(0, 1, 2, 3, 40)))
}

// P8.1: empty segments are whole, wherever they are.
func TestOpenOfEmptySegments(t *testing.T) {
	f := files{"m": manifestOf(0, 0, 1, 5, 6, 9), "s1": "", "s5": "", "s6": bytesOf(t, drop(1)), "s9": ""}
	opens(t, "empty ones", diskOf(t, room, f), 100, false, seg{number: 1}, seg{number: 5}, seg{6, [][]api.Record{drop(1)}}, seg{number: 9})
}

// P8.1
func TestOpenOfManyNumbers(t *testing.T) {
	var l []uint32
	var segs []seg
	f := files{}
	for n := 1; n <= 990; n++ {
		s := seg{number: n * 7}
		if n%3 == 0 {
			s.frames = [][]api.Record{drop(uint32(n))}
		}
		l, segs = append(l, uint32(s.number)), append(segs, s)
		f[name(s.number)] = bytesOf(t, s.frames...)
	}
	f["m"] = manifestOf(0, 0, l...)
	opens(t, "990", diskOf(t, room, f), 100, false, segs...)
}

// P8.1
func TestOpenDeletesTheNextManifest(t *testing.T) {
	f, segs := threeSegments(t)
	for what, next := range map[string]string{"nothing": "", "a manifest": manifestOf(0, 1, 40), "half of one": manifestOf(0, 0, 2)[:10], "a text": "x"} {
		d := diskOf(t, room, f.with("t", next))
		opens(t, what, d, 100, false, segs...)
		hasFiles(t, what, d, f)
	}
}

// P8.1
func TestOpenDeletesWhatIsNotTold(t *testing.T) {
	f, segs := threeSegments(t)
	all := f
	for i, other := range []string{"", "\x00", "a", "M", "mm", "m\x00", "s", "s0", "s1", "s02", "s2 ", "S2", "s-2", "s4", "s41", "s400", "s4294967298", "t2", "\xff"} {
		one := f.with(other, bytesOf(t, drop(uint32(i+1))))
		all = all.with(other, one[other])
		d := diskOf(t, room, one)
		opens(t, fmt.Sprintf("%q", other), d, 100, false, segs...)
		hasFiles(t, fmt.Sprintf("%q", other), d, f)
	}
	d := diskOf(t, room, all.with("t", "t"))
	opens(t, "all of them", d, 100, false, segs...)
	hasFiles(t, "all of them", d, f)
}

// P8.1: bytes that are no manifest are refused, and nothing but "t" is deleted.
func refusesManifest(t *testing.T, what, m string) {
	t.Helper()
	f := files{"m": m, "s0": "", "s1": bytesOf(t, drop(1)), "s2": "", "s3": bytesOf(t, drop(3)), "s4294967295": "", "x": "y"}
	d := diskOf(t, room, f.with("t", manifestOf(0, 0, 1)))
	for range 2 {
		refuses(t, what, d, 100, api.ErrForm)
		hasFiles(t, what, d, f)
	}
}

// P8.1
func TestOpenOfNoFrame(t *testing.T) {
	good := manifestOf(0, 0, 1, 2, 3)
	for end := range good {
		refusesManifest(t, fmt.Sprintf("cut off at %d", end), good[:end])
	}
	for i := range good {
		for _, x := range []byte{1, 2, 128, 255} {
			b := []byte(good)
			b[i] ^= x
			refusesManifest(t, fmt.Sprintf("byte %d xored with %d", i, x), string(b))
		}
	}
	for _, behind := range []string{"\x00", "\x01", good, good[:1], strings.Repeat("\x00", 100)} {
		refusesManifest(t, fmt.Sprintf("%d bytes behind", len(behind)), good+behind)
		refusesManifest(t, fmt.Sprintf("%d bytes ahead", len(behind)), behind+good[:len(good)-1])
	}
	refusesManifest(t, "a body alone", good[8:])
	refusesManifest(t, "a frame of records", bytesOf(t, drop(1)))
	refusesManifest(t, "a frame of no bytes", strings.Repeat("\x00", 8))
	refusesManifest(t, "a text", "no manifest at all")
	refusesManifest(t, "many bytes", strings.Repeat("\xff", 30000))
}

// P8.1: frames that are good, with bodies that aren't.
func TestOpenOfABodyThatIsNone(t *testing.T) {
	rest := numbers(0) + "\x00"
	for what, body := range map[string]string{
		"one byte":                     "\x00",
		"no segment":                   text("") + rest,
		"no segment, and a base":       text("") + numbers(1) + "\x01",
		"a byte of a segment":          text("\x01") + rest,
		"two bytes of one":             text("\x01\x00") + rest,
		"three bytes of one":           text("\x01\x00\x00") + rest,
		"a segment and a byte":         text(numbers(1)+"\x02") + rest,
		"a segment and three":          text(numbers(1)+"\x02\x00\x00") + rest,
		"a segment and a zero":         text(numbers(1)+"\x00") + rest,
		"segment 0":                    text(numbers(0)) + rest,
		"segment 0 ahead of another":   text(numbers(0, 1)) + rest,
		"segment 0 behind another":     text(numbers(1, 0)) + rest,
		"one twice":                    text(numbers(1, 1)) + rest,
		"the last one twice":           text(numbers(1, 2, 2)) + rest,
		"falling":                      text(numbers(2, 1)) + rest,
		"falling at last":              text(numbers(1, 3, 2)) + rest,
		"falling at first":             text(numbers(2, 1, 3)) + rest,
		"rising but by bytes":          text(numbers(256, 2)) + rest,
		"segment 2^32 - 1":             text(numbers(math.MaxUint32)) + rest,
		"segment 2^32 - 1 behind some": text(numbers(1, 2, math.MaxUint32)) + rest,
		"begun 2":                      text(numbers(1)) + numbers(0) + "\x02",
		"begun 255":                    text(numbers(1)) + numbers(0) + "\xff",
		"begun 128":                    text(numbers(1)) + numbers(0) + "\x80",
		"no last byte":                 text(numbers(1)) + numbers(0),
		"three bytes of a base":        text(numbers(1)) + "\x00\x00\x00",
		"no base":                      text(numbers(1)),
		"one byte more":                text(numbers(1)) + rest + "\x00",
		"many bytes more":              text(numbers(1)) + rest + strings.Repeat("\x00", 19000),
		"twice":                        strings.Repeat(text(numbers(1))+rest, 2),
		"a text that is cut off":       "\x08\x00" + numbers(1),
		"a text of all":                "\xff\xff" + numbers(1) + rest,
		"a text that is too short":     "\x00\x00" + numbers(1) + rest,
		"a length of four bytes":       "\x04\x00\x00\x00" + numbers(1) + rest,
	} {
		refusesManifest(t, what, framed(body))
	}
	// Of more numbers than there can be files, and of more than a body has bytes for.
	var many []uint32
	for n := uint32(1); n <= 4998; n++ {
		many = append(many, n)
	}
	refuses(t, "4998 segments", diskOf(t, room, files{"m": manifestOf(0, 0, many...), "s1": ""}), 100, api.ErrForm)
	opens(t, "4998 segments, and a base", diskOf(t, room, files{"m": manifestOf(2, 0, many...), "s1": ""}), 100, false, seg{number: 1})
	refusesManifest(t, "4999 segments", manifestOf(0, 0, append(many, 4999)...))
}

// P8.1: the greatest numbers that may be.
func TestOpenOfGreatNumbers(t *testing.T) {
	const great = math.MaxUint32 - 1
	f := files{"m": manifestOf(0, 1, 1<<31, great), "s2147483648": bytesOf(t, drop(1)), "s4294967294": bytesOf(t, drop(2))}
	d := diskOf(t, room, f)
	l := opens(t, "great ones", d, 100, true, seg{1 << 31, [][]api.Record{drop(1)}}, seg{great, [][]api.Record{drop(2)}})
	appends(t, "great ones", l, drop(3), api.Spot{Seg: great, At: 14, Len: 14})
	opens(t, "again", d, 100, true, seg{1 << 31, [][]api.Record{drop(1)}}, seg{great, [][]api.Record{drop(2), drop(3)}})
}

// P8.1
func TestOpenOfABase(t *testing.T) {
	f, segs := threeSegments(t)
	for _, c := range []struct {
		base uint32
		left int // of the segments
	}{{0, 3}, {3, 1}, {4, 2}, {39, 2}, {40, 2}, {41, 3}, {1 << 31, 3}, {math.MaxUint32 - 1, 3}, {math.MaxUint32, 3}} {
		for begun := range byte(2) {
			what := fmt.Sprintf("base %d, begun %d", c.base, begun)
			var told []uint32
			want := files{}
			for _, s := range segs[:c.left] {
				told = append(told, uint32(s.number))
				want[name(s.number)] = f[name(s.number)]
			}
			want["m"] = manifestOf(0, begun, told...)
			d := diskOf(t, room, f.with("m", manifestOf(c.base, begun, 2, 3, 40)))
			l := opens(t, what, d, 100, begun == 1, segs[:c.left]...)
			hasFiles(t, what, d, want)
			is(t, what+": Adopt", l.Adopt(), api.ErrArg)
			opens(t, what+", again", d, 100, begun == 1, segs[:c.left]...)
		}
	}
}

// P8.1: with no segment left nothing is switched, and nothing is deleted.
func TestOpenOfABaseThatLeavesNone(t *testing.T) {
	f, _ := threeSegments(t)
	for _, base := range []uint32{1, 2} {
		for begun := range byte(2) {
			what := fmt.Sprintf("base %d, begun %d", base, begun)
			f := f.with("m", manifestOf(base, begun, 2, 3, 40))
			d := diskOf(t, room, f)
			for range 2 {
				refuses(t, what, d, 100, api.ErrForm)
				hasFiles(t, what, d, f)
			}
		}
	}
}

// P8.1: a segment that is no more told may be missing, or not whole, and the one ahead of it is the last one then.
func TestOpenOfABaseAndAMergeThatIsCutOff(t *testing.T) {
	f, segs := threeSegments(t)
	for what, rest := range map[string]files{
		"missing":   f.without("s40"),
		"not whole": f.with("s40", f["s40"]+"x"),
		"empty":     f.with("s40", ""),
	} {
		d := diskOf(t, room, rest.with("m", manifestOf(40, 1, 2, 3, 40)).with("s3", f["s3"]+"\x06"))
		opens(t, what, d, 100, true, segs[:2]...)
		hasFiles(t, what, d, files{"m": manifestOf(0, 1, 2, 3), "s2": f["s2"], "s3": f["s3"]})
	}
}

// P8.1
func TestOpenWithASegmentMissing(t *testing.T) {
	f, _ := threeSegments(t)
	for _, missing := range []string{"s2", "s3", "s40"} {
		for _, last := range []string{"", "half of a frame"} {
			left := f.with("s40", f["s40"]+last).without(missing)
			d := diskOf(t, room, left)
			refuses(t, missing, d, 100, api.ErrForm)
			hasFiles(t, missing, d, left)
		}
	}
	d := diskOf(t, room, files{"m": manifestOf(0, 0, 1)})
	refuses(t, "the only one", d, 100, api.ErrForm)
	d = diskOf(t, room, files{"m": manifestOf(0, 0, 1), "s01": "", "s": "", "s10": "", "1": ""})
	refuses(t, "the only one, with others", d, 100, api.ErrForm)
}

// notWhole are bytes that make no segment whole, behind whatever is.
func notWhole(t *testing.T) map[string]string {
	t.Helper()
	good := bytesOf(t, each())
	sum := []byte(good)
	sum[5]++
	return map[string]string{
		"a byte":               "\x00",
		"seven bytes":          good[:7],
		"a head":               good[:8],
		"all but one":          good[:len(good)-1],
		"another sum":          string(sum),
		"no records":           framed("no records"),
		"no records, then one": framed("no records") + good,
		"zeros":                strings.Repeat("\x00", 50),
		"a manifest":           manifestOf(0, 0, 1),
	}
}

// P8.1
func TestOpenWithASegmentThatIsNotWhole(t *testing.T) {
	f, segs := threeSegments(t)
	for what, behind := range notWhole(t) {
		for _, segment := range []string{"s2", "s3"} {
			for _, ahead := range []string{"", f[segment]} {
				bad := f.with(segment, ahead+behind).with("s40", f["s40"]+"x")
				d := diskOf(t, room, bad)
				refuses(t, what+" in "+segment, d, 100, api.ErrForm)
				hasFiles(t, what+" in "+segment, d, bad)
			}
		}
		d := diskOf(t, room, f.with("s40", f["s40"]+behind))
		l := opens(t, what+" in the last one", d, 1000, false, segs...)
		hasFiles(t, what+" in the last one", d, f)
		at := len(f["s40"])
		appends(t, what+" in the last one", l, drop(9), api.Spot{Seg: 40, At: at, Len: 14})
		fall(t, d, 0)
		d.Open()
		hasFiles(t, what+" in the last one, and a frame", d, f.with("s40", f["s40"]+bytesOf(t, drop(9))))

		d = diskOf(t, room, f.with("s40", behind))
		opens(t, what+" alone", d, 100, false, segs[0], segs[1], seg{number: 40})
		hasFiles(t, what+" alone", d, f.with("s40", ""))
	}
}

// P8.1: files that aren't told are deleted ahead of a look at the segments; those are left as they are.
func TestOpenDeletesAheadOfSegmentsThatAreRefused(t *testing.T) {
	f, _ := threeSegments(t)
	bad := f.with("s2", f["s2"]+"x")
	d := diskOf(t, room, bad.with("t", "").with("s1", "").with("x", ""))
	refuses(t, "not whole", d, 100, api.ErrForm)
	hasFiles(t, "not whole", d, bad)

	d = diskOf(t, room, f.without("s2").with("m", manifestOf(40, 1, 2, 3, 40)))
	refuses(t, "missing, with a base", d, 100, api.ErrForm)
	hasFiles(t, "missing, with a base", d, files{"m": manifestOf(0, 1, 2, 3), "s3": f["s3"]})
}

// P8.1: a disk that has no room for the manifest, and one that has just so much.
func TestOpenOfAFullDisk(t *testing.T) {
	size := len(manifestOf(0, 0, 1))
	for capacity := -1; capacity < size; capacity++ {
		d := disk.New(capacity)
		for range 2 {
			refuses(t, fmt.Sprint("a capacity of ", capacity), d, 100, api.ErrSpace)
		}
	}
	opens(t, "just so much", disk.New(size), 100, false, seg{number: 1})

	f, segs := threeSegments(t)
	f = f.with("m", manifestOf(40, 1, 2, 3, 40))
	used := diskOf(t, room, f).Used()
	next := len(manifestOf(0, 1, 2, 3))
	d := diskOf(t, used+next-1, f)
	for range 2 {
		refuses(t, "a base", d, 100, api.ErrSpace)
		if kept := filesOf(t, d); kept["m"] != f["m"] || kept["s2"] != f["s2"] || kept["s40"] != f["s40"] {
			t.Error(kept.short())
		}
	}
	opens(t, "a base", diskOf(t, used+next, f), 100, true, segs[:2]...)
}

// P8.1: as many files as there may be: what is deleted first makes room.
func TestOpenOfAllFiles(t *testing.T) {
	f, segs := threeSegments(t)
	for i := 0; len(f) < api.MaxFiles-1; i++ {
		f[fmt.Sprint("x", i)] = ""
	}
	opens(t, "t among them", diskOf(t, room, f.with("t", "")), 100, false, segs...)
	opens(t, "not told", diskOf(t, room, f.with("x", "")), 100, false, segs...)
	opens(t, "no manifest", diskOf(t, room, f.without("m").with("x", "").with("y", "")), 100, false, seg{number: 1})

	f["m"] = manifestOf(40, 1, 2, 3, 40)
	opens(t, "a base, and t among them", diskOf(t, room, f.with("t", "")), 100, true, segs[:2]...)
	refuses(t, "a base, and no room for t", diskOf(t, room, f.with("x", "")), 100, api.ErrSpace)
}

// P8.4: what Open told may be changed.
func TestOpenTellsNewMemory(t *testing.T) {
	f, segs := threeSegments(t)
	d := diskOf(t, room, f)
	l, pieces, spots, err := seglog.Open(d, 100)
	done(t, err)
	for i := range pieces {
		for j := range pieces[i].L {
			pieces[i].L[j] = api.Record{}
		}
		pieces[i].At, pieces[i].Len, pieces[i].L = -1, -1, nil
		spots[i] = api.Spot{}
	}
	clear(l.Segments())
	if n := l.Segments(); !slices.Equal(n, []int{2, 3, 40}) {
		t.Error(n)
	}
	tells(t, "changed", l, false, segs...)
	opens(t, "changed, and opened again", d, 100, false, segs...)
}
