package seglog_test

import (
	"fmt"
	"maps"
	"testing"

	"hassock/api"
	"hassock/disk"
	"hassock/seglog"
)

// effect is one that a call must have, as it is done without a log.
type effect func(*disk.Disk) error

func create(name string) effect { return func(d *disk.Disk) error { return d.Create(name) } }
func add(name, b string) effect {
	return func(d *disk.Disk) error { return d.Append(name, []byte(b)) }
}
func sync(name string) effect       { return func(d *disk.Disk) error { return d.Sync(name) } }
func cut(name string, n int) effect { return func(d *disk.Disk) error { return d.Cut(name, n) } }
func rename(from, to string) effect { return func(d *disk.Disk) error { return d.Rename(from, to) } }
func remove(name string) effect     { return func(d *disk.Disk) error { return d.Delete(name) } }

// appended are an Append's, switched those of a switch of the manifest.
func appended(name, b string) []effect { return []effect{add(name, b), sync(name)} }
func switched(m string) []effect {
	return []effect{create("t"), add("t", m), sync("t"), rename("t", "m")}
}

// chain is lists of effects, one behind the other.
func chain(parts ...[]effect) []effect {
	var l []effect
	for _, p := range parts {
		l = append(l, p...)
	}
	return l
}

// start makes a disk, always the same, and what is to be called on it; the log is nil if that is Open.
type start func() (*disk.Disk, *seglog.Log, func() error)

// hasEffects tells of a call that it must have just these effects, in their order: it goes down at each one, with no bytes kept, some and all, and must leave what the effects ahead of it leave on a disk of the same making; and what the log tells then is as adopt says (of Adopt), for segment known.
func hasEffects(t *testing.T, what string, from start, adopt api.Code, known int, want ...effect) {
	t.Helper()
	for k := range len(want) + 1 {
		for _, keep := range []int{0, 1, 8, 13, 1 << 30} {
			what := fmt.Sprintf("%s: %d effects, %d bytes kept", what, k, keep)
			d, l, call := from()
			other, _, _ := from()
			before := d.Effects()
			d.Plan(k, keep)
			err := call()
			for i, e := range want[:k] {
				if err := e(other); err != nil {
					t.Fatalf("%s: effect %d: %v", what, i, err)
				}
			}
			if d.Effects() != before+k {
				t.Errorf("%s: %d", what, d.Effects()-before)
			}
			if k < len(want) {
				is(t, what, err, api.ErrDisk)
				if !d.Down() {
					t.Fatalf("%s: it isn't down", what)
				}
				if l != nil {
					dead(t, what, d, l, adopt, known)
				}
			} else {
				is(t, what, err, 0)
				if d.Down() {
					t.Fatalf("%s: it is down", what)
				}
				fall(t, d, keep)
			}
			fall(t, other, keep)
			d.Open()
			other.Open()
			if l != nil && k < len(want) {
				dead(t, what+", and up", d, l, adopt, known)
			}
			if a, b := filesOf(t, d), filesOf(t, other); !maps.Equal(a, b) {
				t.Errorf("%s: left are %s, not %s, or others of these lengths", what, a.short(), b.short())
			}
		}
	}
}

// opening makes a disk with these files, which is opened.
func opening(t *testing.T, f files) start {
	return func() (*disk.Disk, *seglog.Log, func() error) {
		d := diskOf(t, room, f)
		return d, nil, func() error {
			l, pieces, spots, err := seglog.Open(d, 100)
			if err != nil && (l != nil || len(pieces) > 0 || len(spots) > 0) {
				return fmt.Errorf("%v, %v, %v beside %w", l, pieces, spots, err)
			}
			return err
		}
	}
}

// on makes a disk with a log with two segments, and does something with that; what is called follows.
func on(t *testing.T, do func(*disk.Disk, *seglog.Log), call func(*seglog.Log) error) start {
	return func() (*disk.Disk, *seglog.Log, func() error) {
		d, _ := merge(t)
		l := open(t, d, 100)
		do(d, l)
		return d, l, func() error { return call(l) }
	}
}

// P8.1
func TestEffectsOfOpenWithoutAManifest(t *testing.T) {
	first := chain([]effect{create("s1")}, switched(manifestOf(0, 0, 1)))
	hasEffects(t, "a new disk", opening(t, files{}), 0, 0, first...)
	hasEffects(t, "one with t", opening(t, files{"t": "x"}), 0, 0, chain([]effect{remove("t")}, first)...)
	f := files{"t": "x", "s1": bytesOf(t, drop(1)), "s10": "", "s2": "", "": "y", "\xff": "", "u": "", "a": ""}
	gone := []effect{remove("t"), remove(""), remove("a"), remove("s1"), remove("s10"), remove("s2"), remove("u"), remove("\xff")}
	hasEffects(t, "one with files", opening(t, f), 0, 0, chain(gone, first)...)
}

// P8.1
func TestEffectsOfOpen(t *testing.T) {
	f, _ := threeSegments(t)
	hasEffects(t, "nothing to be done", opening(t, f), 0, 0)
	hasEffects(t, "t", opening(t, f.with("t", "x")), 0, 0, remove("t"))
	others := f.with("t", "").with("s1", "x").with("s02", "y").with("", "").with("z", "").with("s5", bytesOf(t, drop(1)))
	gone := []effect{remove("t"), remove(""), remove("s02"), remove("s1"), remove("s5"), remove("z")}
	hasEffects(t, "files that aren't told", opening(t, others), 0, 0, gone...)
	size := len(f["s40"])
	torn := []effect{cut("s40", size), sync("s40")}
	hasEffects(t, "a last one that isn't whole", opening(t, f.with("s40", f["s40"]+f["s40"][:13])), 0, 0, torn...)
	hasEffects(t, "both", opening(t, others.with("s40", f["s40"]+"x")), 0, 0, chain(gone, torn)...)
	alone := []effect{cut("s40", 0), sync("s40")}
	hasEffects(t, "a last one that is nothing", opening(t, f.with("s40", "nothing at all")), 0, 0, alone...)
}

// P8.1
func TestEffectsOfOpenWithABase(t *testing.T) {
	f, _ := threeSegments(t)
	size := len(f["s3"])
	for begun := range byte(2) {
		base := f.with("m", manifestOf(40, begun, 2, 3, 40))
		next := switched(manifestOf(0, begun, 2, 3))
		hasEffects(t, "a base", opening(t, base), 0, 0, chain(next, []effect{remove("s40")})...)
		all := base.with("t", "old").with("s3", f["s3"]+"x").with("a", "").with("s5", "")
		hasEffects(t, "a base, and all else", opening(t, all), 0, 0, chain(
			[]effect{remove("t")}, next, []effect{remove("a"), remove("s40"), remove("s5"), cut("s3", size), sync("s3")},
		)...)
		early := f.with("m", manifestOf(3, begun, 2, 3, 40))
		hasEffects(t, "a base of two segments", opening(t, early), 0, 0, chain(
			switched(manifestOf(0, begun, 2)), []effect{remove("s3"), remove("s40")},
		)...)
		none := f.with("m", manifestOf(77, begun, 2, 3, 40))
		hasEffects(t, "a base that isn't told", opening(t, none), 0, 0, switched(manifestOf(0, begun, 2, 3, 40))...)
	}
}

// nothing is done ahead of a call.
func nothing(*disk.Disk, *seglog.Log) {}

// P8.2
func TestEffectsOfAppend(t *testing.T) {
	put := func(r []api.Record, want api.Spot) func(*seglog.Log) error {
		return func(l *seglog.Log) error {
			s, err := l.Append(r)
			if err == nil && s != want || err != nil && s != (api.Spot{}) {
				return fmt.Errorf("%v beside %w", s, err)
			}
			return err
		}
	}
	hasEffects(t, "behind others", on(t, nothing, put(drop(9), api.Spot{Seg: 2, At: 14, Len: 14})), api.ErrArg, 2,
		appended("s2", bytesOf(t, drop(9)))...)
	hasEffects(t, "what just fits", on(t, nothing, put(ofSize(t, 86), api.Spot{Seg: 2, At: 14, Len: 86})), api.ErrArg, 2,
		appended("s2", bytesOf(t, ofSize(t, 86)))...)
	hasEffects(t, "one byte more", on(t, nothing, put(ofSize(t, 87), api.Spot{Seg: 3, Len: 87})), api.ErrArg, 2, chain(
		[]effect{create("s3")}, switched(manifestOf(0, 0, 1, 2, 3)), appended("s3", bytesOf(t, ofSize(t, 87))),
	)...)
	begun := func(_ *disk.Disk, l *seglog.Log) { done(t, l.Begin()) }
	hasEffects(t, "into an empty one", on(t, begun, put(ofSize(t, 200), api.Spot{Seg: 3, Len: 200})), api.ErrDisk, 2,
		appended("s3", bytesOf(t, ofSize(t, 200)))...)
	more := func(d *disk.Disk, l *seglog.Log) {
		begun(d, l)
		_, err := l.Append(ofSize(t, 90))
		done(t, err)
	}
	hasEffects(t, "into the next one of a merge", on(t, more, put(drop(1), api.Spot{Seg: 4, Len: 14})), api.ErrDisk, 3, chain(
		[]effect{create("s4")}, switched(manifestOf(3, 1, 1, 2, 3, 4)), appended("s4", bytesOf(t, drop(1))),
	)...)
	left := func(d *disk.Disk, _ *seglog.Log) { done(t, d.Create("t")) }
	hasEffects(t, "t is there, and isn't in the way", on(t, left, put(drop(9), api.Spot{Seg: 2, At: 14, Len: 14})), api.ErrArg, 2,
		appended("s2", bytesOf(t, drop(9)))...)
	hasEffects(t, "t is there", on(t, left, put(each(), api.Spot{Seg: 3, Len: len(frameOf(t, each()))})), api.ErrArg, 1, chain(
		[]effect{create("s3"), remove("t")}, switched(manifestOf(0, 0, 1, 2, 3)), appended("s3", bytesOf(t, each())),
	)...)
}

// P8.3
func TestEffectsOfBegin(t *testing.T) {
	begin := (*seglog.Log).Begin
	hasEffects(t, "Begin", on(t, nothing, begin), api.ErrArg, 1, chain(
		[]effect{create("s3")}, switched(manifestOf(3, 1, 1, 2, 3)),
	)...)
	again := func(_ *disk.Disk, l *seglog.Log) { done(t, l.Begin()) }
	hasEffects(t, "again", on(t, again, begin), api.ErrDisk, 1, chain(
		[]effect{create("s4")}, switched(manifestOf(4, 1, 1, 2, 3, 4)),
	)...)
	left := func(d *disk.Disk, _ *seglog.Log) { done(t, d.Create("t")) }
	hasEffects(t, "t is there", on(t, left, begin), api.ErrArg, 1, chain(
		[]effect{create("s3"), remove("t")}, switched(manifestOf(3, 1, 1, 2, 3)),
	)...)
}

// P8.3: once the manifest is switched, its base is 0, and it tells no merge.
func TestEffectsOfAdopt(t *testing.T) {
	merged := func(frames int) func(*disk.Disk, *seglog.Log) {
		return func(_ *disk.Disk, l *seglog.Log) {
			done(t, l.Begin())
			for range frames {
				_, err := l.Append(ofSize(t, 60))
				done(t, err)
			}
		}
	}
	for frames, told := range map[int][]uint32{0: {3}, 1: {3}, 3: {3, 4, 5}} {
		what := fmt.Sprintf("%d frames", frames)
		all := chain(switched(manifestOf(0, 0, told...)), []effect{remove("s1"), remove("s2")})
		adoptsInTwoParts(t, what, on(t, merged(frames), (*seglog.Log).Adopt), all)
	}
	left := func(d *disk.Disk, l *seglog.Log) {
		merged(1)(d, l)
		done(t, d.Create("t"))
	}
	adoptsInTwoParts(t, "t is there", on(t, left, (*seglog.Log).Adopt), chain(
		[]effect{remove("t")}, switched(manifestOf(0, 0, 3)), []effect{remove("s1"), remove("s2")},
	))
}

// adoptsInTwoParts holds the effects, and what a second Adopt tells: ErrDisk till the manifest is switched, then ErrArg.
func adoptsInTwoParts(t *testing.T, what string, from start, want []effect) {
	t.Helper()
	for k := range want {
		d, l, call := from()
		d.Plan(k, 0)
		is(t, what, call(), api.ErrDisk)
		isSwitched := k >= len(want)-2
		second := api.Code(api.ErrDisk)
		if isSwitched {
			second = api.ErrArg
		}
		is(t, fmt.Sprintf("%s: Adopt, down at effect %d", what, k), l.Adopt(), second)
		if l.Begun() == isSwitched {
			t.Errorf("%s: Begun is %v, down at effect %d", what, l.Begun(), k)
		}
	}
	quiet := func() (*disk.Disk, *seglog.Log, func() error) {
		d, _, call := from()
		return d, nil, call
	}
	hasEffects(t, what, quiet, 0, 0, want...)
}

// P8.1, P8.2, P8.3: what has no effect.
func TestCallsWithoutEffects(t *testing.T) {
	d, _ := merge(t)
	l := open(t, d, 100)
	done(t, l.Begin())
	effects := d.Effects()
	d.Plan(0, 0)
	l.Segments()
	l.Bytes()
	l.Begun()
	reads(t, "a frame", l, api.Spot{Seg: 2, Len: 14}, drop(8))
	noRecords(t, "no frame", l, api.Spot{Seg: 2, Len: 15}, api.ErrForm)
	noRecords(t, "no segment", l, api.Spot{Seg: 9}, api.ErrNone)
	noSpot(t, "no records", l, nil, api.ErrArg)
	refuses(t, "another limit", d, 99, api.ErrArg)
	if d.Effects() != effects || d.Down() {
		t.Errorf("%d effects, down %v", d.Effects()-effects, d.Down())
	}
}
