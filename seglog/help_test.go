package seglog_test

import (
	"encoding/binary"
	"hash/crc32"
	"maps"
	"math"
	"slices"
	"strconv"
	"strings"
	"testing"

	"hassock/api"
	"hassock/disk"
	"hassock/record"
	"hassock/seglog"
	"hassock/torn"
)

// room is a capacity that no test needs.
const room = 1 << 24

// is holds an error against a code, which must be told itself; 0 is no error.
func is(t *testing.T, what string, err error, want api.Code) {
	t.Helper()
	if want == 0 {
		if err != nil {
			t.Errorf("%s: %v, not done", what, err)
		}
		return
	}
	code, itself := err.(api.Code)
	if !itself || code != want {
		t.Errorf("%s: %v, not %v", what, err, want)
	}
}

// done tells of a call that a test stands on that it must have been done.
func done(t *testing.T, err error) {
	t.Helper()
	if err != nil {
		t.Fatal(err)
	}
}

// files is what a disk has.
type files map[string]string

// with is f with one file more, or another one.
func (f files) with(name, b string) files {
	f = maps.Clone(f)
	f[name] = b
	return f
}

// without is f with one file less.
func (f files) without(name string) files {
	f = maps.Clone(f)
	delete(f, name)
	return f
}

// diskOf is a disk with these files, all of them synced.
func diskOf(t *testing.T, capacity int, f files) *disk.Disk {
	t.Helper()
	d := disk.New(capacity)
	for _, name := range slices.Sorted(maps.Keys(f)) {
		done(t, d.Create(name))
		done(t, d.Append(name, []byte(f[name])))
		done(t, d.Sync(name))
	}
	return d
}

// filesOf is what a disk has, which is up.
func filesOf(t *testing.T, d *disk.Disk) files {
	t.Helper()
	f := files{}
	for _, name := range d.List() {
		n, err := d.Len(name)
		done(t, err)
		b, err := d.Read(name, 0, n)
		done(t, err)
		f[name] = string(b)
	}
	return f
}

// short tells what a disk has by lengths.
func (f files) short() string {
	var l []string
	for _, name := range slices.Sorted(maps.Keys(f)) {
		l = append(l, strconv.Quote(name)+" of "+strconv.Itoa(len(f[name])))
	}
	return strings.Join(l, ", ")
}

// hasFiles tells of a disk what it must have.
func hasFiles(t *testing.T, what string, d *disk.Disk, want files) {
	t.Helper()
	if got := filesOf(t, d); !maps.Equal(got, want) {
		t.Errorf("%s: the disk has %s, not %s, or others of these lengths", what, got.short(), want.short())
	}
}

// framed is a frame, by the library alone.
func framed(body string) string {
	b := binary.LittleEndian.AppendUint32(nil, uint32(len(body)))
	b = binary.LittleEndian.AppendUint32(b, crc32.ChecksumIEEE([]byte(body)))
	return string(b) + body
}

// numbers are four bytes each.
func numbers(l ...uint32) string {
	var b []byte
	for _, n := range l {
		b = binary.LittleEndian.AppendUint32(b, n)
	}
	return string(b)
}

// text is a text of a manifest's body, and the bytes that tell how long it is.
func text(s string) string { return string([]byte{byte(len(s)), byte(len(s) >> 8)}) + s }

// manifestOf is a manifest, by the library alone.
func manifestOf(base uint32, begun byte, segments ...uint32) string {
	return framed(text(numbers(segments...)) + numbers(base) + string([]byte{begun}))
}

// name is a segment's file.
func name(number int) string { return "s" + strconv.Itoa(number) }

// drop is a list of one record, whose frame has 14 bytes.
func drop(gen uint32) []api.Record { return []api.Record{{Kind: api.RDrop, Bucket: 3, Gen: gen}} }

// each are records of all kinds.
func each() []api.Record {
	return []api.Record{
		{Kind: api.RBucket, Bucket: 63, Gen: math.MaxUint32, Quota: api.Quota{Keys: 1 << 40, Bytes: 2, Budget: 3}, Seq: math.MaxUint64, Serial: 4},
		{Kind: api.RDrop, Gen: 1},
		{Kind: api.RPut, Bucket: 5, Gen: 6, Key: "a key", Val: "a value", Version: 7, Expiry: 8},
		{Kind: api.RDel, Bucket: 9, Gen: 10, Key: "another", Version: 11},
		{Kind: api.RToken, Bucket: 12, Gen: 13, Serial: 14, Rights: 7, Secret: 15},
		{Kind: api.RRevoke, Bucket: 16, Gen: 17, Serial: 18},
		{Kind: api.RGen, Bucket: 19, Gen: 20},
	}
}

// ofSize are records whose frame has just so many bytes, 35 to 20008.
func ofSize(t *testing.T, size int) []api.Record {
	t.Helper()
	var l []api.Record
	for left := size - 8; left > 0; {
		most := min(left, 1027)
		if rest := left - most; rest > 0 && rest < 27 {
			most -= 27
		}
		l = append(l, api.Record{Kind: api.RPut, Bucket: len(l), Gen: 1, Key: "k", Val: strings.Repeat("v", most-27)})
		left -= most
	}
	if len(frameOf(t, l)) != size {
		t.Fatalf("%d bytes, not %d", len(frameOf(t, l)), size)
	}
	return l
}

// frameOf is the frame of records.
func frameOf(t *testing.T, l []api.Record) string {
	t.Helper()
	body, err := record.Put(l)
	done(t, err)
	return framed(string(body))
}

// seg is a segment: its number, and the records of each of its frames.
type seg struct {
	number int
	frames [][]api.Record
}

// bytesOf is a segment as bytes.
func bytesOf(t *testing.T, frames ...[]api.Record) string {
	t.Helper()
	b := ""
	for _, l := range frames {
		b += frameOf(t, l)
	}
	return b
}

// open opens a log that there must be.
func open(t *testing.T, d *disk.Disk, limit int) *seglog.Log {
	t.Helper()
	l, _, _, err := seglog.Open(d, limit)
	done(t, err)
	return l
}

// opens opens a log that must have these segments; its pieces and spots must be theirs.
func opens(t *testing.T, what string, d *disk.Disk, limit int, begun bool, segs ...seg) *seglog.Log {
	t.Helper()
	l, pieces, spots, err := seglog.Open(d, limit)
	if err != nil || l == nil {
		t.Fatalf("%s: %v", what, err)
	}
	var wantPieces []torn.Piece
	var wantSpots []api.Spot
	for _, s := range segs {
		at := 0
		for _, r := range s.frames {
			n := len(frameOf(t, r))
			wantPieces = append(wantPieces, torn.Piece{At: at, Len: n, L: r})
			wantSpots = append(wantSpots, api.Spot{Seg: s.number, At: at, Len: n})
			at += n
		}
	}
	same := func(a, b torn.Piece) bool { return a.At == b.At && a.Len == b.Len && slices.Equal(a.L, b.L) }
	if !slices.EqualFunc(pieces, wantPieces, same) {
		t.Errorf("%s: the pieces are %v, not %v", what, pieces, wantPieces)
	}
	if !slices.Equal(spots, wantSpots) {
		t.Errorf("%s: the spots are %v, not %v", what, spots, wantSpots)
	}
	tells(t, what, l, begun, segs...)
	return l
}

// tells tells of a log what it must tell of itself, and what its segments must have.
func tells(t *testing.T, what string, l *seglog.Log, begun bool, segs ...seg) {
	t.Helper()
	var want []int
	size := 0
	for _, s := range segs {
		want = append(want, s.number)
		size += len(bytesOf(t, s.frames...))
		at := 0
		for _, r := range s.frames {
			n := len(frameOf(t, r))
			reads(t, what, l, api.Spot{Seg: s.number, At: at, Len: n}, r)
			at += n
		}
	}
	if l.Begun() != begun || l.Bytes() != size || !slices.Equal(l.Segments(), want) {
		t.Errorf("%s: Begun is %v, Bytes %d, Segments %v, not %v, %d, %v", what, l.Begun(), l.Bytes(), l.Segments(), begun, size, want)
	}
}

// reads tells of a log what it must have at a spot.
func reads(t *testing.T, what string, l *seglog.Log, s api.Spot, want []api.Record) {
	t.Helper()
	if r, err := l.Read(s); err != nil || !slices.Equal(r, want) {
		t.Errorf("%s: at %v are %v, %v, not %v", what, s, r, err, want)
	}
}

// refuses tells of a disk that opening a log must tell an error, and nothing else.
func refuses(t *testing.T, what string, d *disk.Disk, limit int, want api.Code) {
	t.Helper()
	l, pieces, spots, err := seglog.Open(d, limit)
	is(t, what, err, want)
	if l != nil || len(pieces) > 0 || len(spots) > 0 {
		t.Errorf("%s: %v, %v, %v beside %v", what, l, pieces, spots, err)
	}
}

// appends appends records, which must lie at a spot.
func appends(t *testing.T, what string, l *seglog.Log, r []api.Record, want api.Spot) {
	t.Helper()
	if s, err := l.Append(r); s != want || err != nil {
		t.Errorf("%s: appended to %v, %v, not %v", what, s, err, want)
	}
}

// noSpot tells of an Append that it must have told an error, and no spot.
func noSpot(t *testing.T, what string, l *seglog.Log, r []api.Record, want api.Code) {
	t.Helper()
	s, err := l.Append(r)
	is(t, what, err, want)
	if s != (api.Spot{}) {
		t.Errorf("%s: %v beside %v", what, s, err)
	}
}

// noRecords tells of a Read that it must tell an error, and no records.
func noRecords(t *testing.T, what string, l *seglog.Log, s api.Spot, want api.Code) {
	t.Helper()
	r, err := l.Read(s)
	is(t, what, err, want)
	if len(r) > 0 {
		t.Errorf("%s: %v beside %v", what, r, err)
	}
}

// fall makes a disk go down by a plan for now.
func fall(t *testing.T, d *disk.Disk, keep int) {
	t.Helper()
	d.Plan(0, keep)
	is(t, "the crash", d.Create("\x00a name that no test takes"), api.ErrDisk)
	if !d.Down() {
		t.Fatal("the plan was for now, and the disk isn't down")
	}
}

// parts are the records of pieces.
func parts(pieces []torn.Piece) [][]api.Record {
	var l [][]api.Record
	for _, p := range pieces {
		l = append(l, p.L)
	}
	return l
}
