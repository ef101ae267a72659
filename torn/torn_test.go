package torn_test

import (
	"bytes"
	"encoding/binary"
	"fmt"
	"math"
	"math/rand"
	"slices"
	"testing"

	"hassock/api"
	"hassock/frame"
	"hassock/record"
	"hassock/torn"
)

// scans tells of bytes that they must have just these pieces in front, and be whole if that is all of them.
func scans(t *testing.T, what string, b []byte, want ...torn.Piece) {
	t.Helper()
	was := bytes.Clone(b)
	end := 0
	for _, p := range want {
		end += p.Len
	}
	pieces, n := torn.Scan(b)
	if !samePieces(pieces, want) || n != end {
		t.Errorf("%s: %d pieces, %d bytes, not %d, %d", what, len(pieces), n, len(want), end)
	}
	if whole := torn.Whole(b); whole != (end == len(b)) {
		t.Errorf("%s: Whole is %v, with %d of %d bytes told", what, whole, end, len(b))
	}
	if !bytes.Equal(b, was) {
		t.Errorf("%s: the bytes were changed", what)
	}
}

// drop is a list of one record, and its frame has 14 bytes.
func drop(gen uint32) []api.Record { return []api.Record{{Kind: api.RDrop, Bucket: 3, Gen: gen}} }

// join is a log of parts.
func join(parts ...[]byte) []byte { return bytes.Join(parts, nil) }

// P7.1
func TestScanOfNothing(t *testing.T) {
	for what, b := range map[string][]byte{"nil": nil, "no bytes": {}, "no bytes, with a frame behind": logOf(drop(1))[:0]} {
		scans(t, what, b)
		if !torn.Whole(b) {
			t.Errorf("%s: no bytes aren't whole", what)
		}
	}
}

// P7.1: byte for byte, not by what other layers tell.
func TestScanKnownBytes(t *testing.T) {
	b := []byte("\x06\x00\x00\x00\x1d\x1d\x16\x03\x02\x03\x01\x00\x00\x00")
	if !bytes.Equal(b, logOf(drop(1))) {
		t.Fatal(logOf(drop(1)))
	}
	pieces, n := torn.Scan(b)
	if len(pieces) != 1 || n != 14 || !torn.Whole(b) {
		t.Fatal(pieces, n)
	}
	want := api.Record{Kind: api.RDrop, Bucket: 3, Gen: 1}
	if p := pieces[0]; p.At != 0 || p.Len != 14 || len(p.L) != 1 || p.L[0] != want {
		t.Error(p)
	}
}

// P7.1
func TestScanOfOneFrame(t *testing.T) {
	for i, l := range lists() {
		scans(t, fmt.Sprintf("list %d", i), logOf(l), torn.Piece{At: 0, Len: 8 + len(told(l...)), L: l})
	}
}

// P7.1
func TestScanOfTwoFrames(t *testing.T) {
	for i, first := range lists() {
		for j, second := range lists() {
			n, m := 8+len(told(first...)), 8+len(told(second...))
			scans(t, fmt.Sprintf("lists %d, %d", i, j), logOf(first, second), torn.Piece{At: 0, Len: n, L: first}, torn.Piece{At: n, Len: m, L: second})
		}
	}
}

// P7.1
func TestScanOfManyFrames(t *testing.T) {
	all := lists()
	for count := range len(all) + 1 {
		scans(t, fmt.Sprintf("the first %d", count), logOf(all[:count]...), piecesOf(all[:count]...)...)
		scans(t, fmt.Sprintf("the last %d", count), logOf(all[len(all)-count:]...), piecesOf(all[len(all)-count:]...)...)
	}
	var many [][]api.Record
	for gen := range uint32(3000) {
		many = append(many, drop(gen+1))
	}
	scans(t, "3000 frames", logOf(many...), piecesOf(many...)...)
	long := slices.Repeat([][]api.Record{ofBytes(api.MaxFrame), drop(1)}, 60)
	scans(t, "a million bytes", logOf(long...), piecesOf(long...)...)
}

// P7.1: where a piece lies is where its frame and its records are.
func TestScanTellsWhereAPieceLies(t *testing.T) {
	b := logOf(lists()...)
	pieces, _ := torn.Scan(b)
	if len(pieces) != len(lists()) {
		t.Fatalf("%d pieces", len(pieces))
	}
	for i, p := range pieces {
		body, n, err := frame.Get(b[p.At : p.At+p.Len])
		if err != nil || n != p.Len {
			t.Fatalf("piece %d at %d of %d: %v", i, p.At, p.Len, err)
		}
		if l, err := record.Get(body); err != nil || !slices.Equal(l, p.L) || !slices.Equal(l, lists()[i]) {
			t.Errorf("piece %d: %v and %v", i, p.L, err)
		}
	}
}

// P7.1: the same frame twice is two pieces.
func TestScanOfTheSameFrameAgain(t *testing.T) {
	for count := 1; count <= 5; count++ {
		l := slices.Repeat([][]api.Record{each()}, count)
		scans(t, fmt.Sprintf("%d times", count), logOf(l...), piecesOf(l...)...)
	}
}

// P7.1
func TestScanOfFewerThanEightBytes(t *testing.T) {
	ahead := [][]api.Record{drop(1), each()}
	for _, b := range [][]byte{
		make([]byte, 7), bytes.Repeat([]byte{255}, 7), []byte("1234567"), logOf(drop(2))[:7], head(20000, 0)[:7], head(20001, 0)[:7], {6, 0, 0, 0, 2, 3, 1},
	} {
		for length := 1; length <= 7; length++ {
			scans(t, fmt.Sprintf("%v alone", b[:length]), b[:length])
			scans(t, fmt.Sprintf("%v behind two frames", b[:length]), join(logOf(ahead...), b[:length]), piecesOf(ahead...)...)
		}
	}
}

// stops tells of bytes that they must end a scan: alone, behind frames, ahead of frames, between them, and twice.
func stops(t *testing.T, what string, b []byte) {
	t.Helper()
	one, two := [][]api.Record{drop(1)}, [][]api.Record{each(), drop(2)}
	scans(t, what, b)
	scans(t, what+" twice", join(b, b))
	for _, behind := range [][][]api.Record{one, two} {
		scans(t, what+" as the first one", join(b, logOf(behind...)))
		for _, ahead := range [][][]api.Record{one, two} {
			scans(t, what+" as the last one", join(logOf(ahead...), b), piecesOf(ahead...)...)
			scans(t, what+" in the middle", join(logOf(ahead...), b, logOf(behind...)), piecesOf(ahead...)...)
		}
	}
}

// P7.1
func TestScanOfALengthOfNone(t *testing.T) {
	stops(t, "a length of 0, with its sum", head(0, 0))
	stops(t, "a length of 0, with a sum", head(0, 0xE8B7BE43))
	stops(t, "eight times 255", bytes.Repeat([]byte{255}, 8))
	stops(t, "many times 0", make([]byte, 1000))
}

// P7.1
func TestScanOfTheMost(t *testing.T) {
	for _, length := range []int{19999, api.MaxFrame} {
		l := ofBytes(length)
		scans(t, fmt.Sprintf("%d bytes", length), logOf(l), piecesOf(l)...)
		scans(t, fmt.Sprintf("%d bytes between others", length), logOf(drop(1), l, drop(2)), piecesOf(drop(1), l, drop(2))...)
		b := logOf(drop(1), l)
		scans(t, fmt.Sprintf("%d bytes, cut off", length), b[:len(b)-1], piecesOf(drop(1))...)
	}
}

// P7.1: one more than the most is no frame, though its body is records and its sum is told.
func TestScanOfOneMoreThanTheMost(t *testing.T) {
	for _, length := range []int{20001, 20002, 65536, 65537} {
		stops(t, fmt.Sprintf("%d bytes of records", length), framed(told(ofBytes(length)...)))
	}
	for _, length := range []uint32{20001, 1 << 16, 1 << 24, math.MaxInt32, 1 << 31, math.MaxUint32 - 8, math.MaxUint32 - 7, math.MaxUint32} {
		stops(t, fmt.Sprintf("a length of %d", length), join(head(length, 0), told(each()...)))
	}
}

// P7.1: a length that tells less, or more than there is.
func TestScanOfAnotherLength(t *testing.T) {
	body := told(each()[:7]...)
	for length := range uint32(len(body)) {
		b := framed(body)
		copy(b, head(length, 0)[:4])
		stops(t, fmt.Sprintf("a length of %d, not %d", length, len(body)), b)
	}
	for _, more := range []uint32{1, 2, 13, 14, 255, 256, 15000} {
		b := framed(body)
		copy(b, head(uint32(len(body))+more, 0)[:4])
		stops(t, fmt.Sprintf("a length of %d more", more), b)
	}
}

// P7.1
func TestScanOfAnotherSum(t *testing.T) {
	for _, l := range [][]api.Record{drop(7), each()[:7], ofBytes(300)} {
		for i := 4; i < 8; i++ {
			for _, x := range []byte{1, 128, 255} {
				b := logOf(l)
				b[i] ^= x
				stops(t, fmt.Sprintf("the sum's byte %d xored with %d", i, x), b)
			}
		}
	}
}

// P7.1: each byte that is changed, but the sum's, is seen too.
func TestScanOfAByteThatIsChanged(t *testing.T) {
	ahead := [][]api.Record{each()[7:14], drop(3)}
	l := each()[:14]
	from := len(logOf(ahead...))
	for i := range logOf(l) {
		for _, x := range []byte{1, 2, 16, 128, 255} {
			b := logOf(append(slices.Clone(ahead), l, drop(4))...)
			b[from+i] ^= x
			scans(t, fmt.Sprintf("byte %d xored with %d", i, x), b, piecesOf(ahead...)...)
		}
	}
}

// notRecords are bodies of good frames that aren't records.
func notRecords() map[string][]byte {
	all := told(each()[:14]...)
	some := map[string][]byte{
		"one byte":                    []byte("x"),
		"a zero":                      {0},
		"many zeros":                  make([]byte, 300),
		"a text":                      []byte("what is no record"),
		"a frame in a frame":          logOf(drop(1)),
		"records, and a byte":         append(bytes.Clone(all), 0),
		"records, and a kind":         append(bytes.Clone(all), 2),
		"records, cut off":            all[:len(all)-1],
		"records without the first":   all[1:],
		"none first, then a record":   join([]byte{0}, told(drop(1)...)),
		"a manifest":                  join([]byte{9, 0}, []byte{1, 0, 0, 0, 0, 0, 0, 0, 0}),
		"the most, that is nothing":   make([]byte, api.MaxFrame),
		"the most, and the last cut":  append(told(ofBytes(19990)...), told(drop(1)...)[:5]...),
		"the most, and the first bad": append([]byte{8}, told(ofBytes(19999)...)...),
	}
	for what, r := range map[string]api.Record{
		"kind 0":             {Kind: 0, Gen: 1},
		"kind 8":             {Kind: 8, Gen: 1},
		"bucket 64":          {Kind: api.RDrop, Bucket: 64, Gen: 1},
		"Gen 0":              {Kind: api.RDrop},
		"too great a quota":  {Kind: api.RBucket, Gen: 1, Quota: api.Quota{Keys: 1<<40 + 1}},
		"a quota below 0":    {Kind: api.RBucket, Gen: 1, Quota: api.Quota{Budget: -1}},
		"no key":             {Kind: api.RPut, Gen: 1, Val: "v"},
		"too long a key":     {Kind: api.RDel, Gen: 1, Key: textOf(65)},
		"too long a value":   {Kind: api.RPut, Gen: 1, Key: "k", Val: textOf(1001)},
		"rights 0":           {Kind: api.RToken, Gen: 1},
		"rights 8":           {Kind: api.RToken, Gen: 1, Rights: 8},
		"a revoke of Gen 0":  {Kind: api.RRevoke, Serial: 1},
		"a generation of 64": {Kind: api.RGen, Bucket: 64, Gen: 1},
	} {
		some[what] = told(r)
		some[what+" ahead of a good one"] = told(r, drop(1)[0])
		some[what+" behind a good one"] = told(drop(1)[0], r)
		some[what+" between good ones"] = told(drop(1)[0], r, drop(2)[0])
	}
	return some
}

// P7.1
func TestScanOfAFrameWhoseBodyIsNotRecords(t *testing.T) {
	for what, body := range notRecords() {
		if _, _, err := frame.Get(framed(body)); err != nil {
			t.Fatalf("%s: %v", what, err)
		}
		stops(t, what, framed(body))
	}
}

// P7.1: of a frame that is refused nothing is told, and not of what was ahead of the fault in it either.
func TestScanTellsNoPartOfAFrame(t *testing.T) {
	for what, body := range notRecords() {
		pieces, n := torn.Scan(join(logOf(drop(1)), framed(body), logOf(drop(2))))
		if len(pieces) != 1 || n != 14 || len(pieces[0].L) != 1 {
			t.Errorf("%s: %v, %d", what, pieces, n)
		}
	}
}

// P7.1
func TestScanWithBytesBehind(t *testing.T) {
	ahead := [][]api.Record{each(), drop(1)}
	for _, behind := range [][]byte{
		{0}, {6}, {255}, []byte("abcdefgh"), []byte("what isn't a frame"), make([]byte, 100), bytes.Repeat([]byte{255}, 100), told(drop(2)...), head(6, 0), head(20000, 0),
	} {
		scans(t, fmt.Sprintf("%d behind, the first %d", len(behind), behind[0]), join(logOf(ahead...), behind), piecesOf(ahead...)...)
		scans(t, fmt.Sprintf("%d and a frame behind, the first %d", len(behind), behind[0]), join(logOf(ahead...), behind, logOf(drop(2))), piecesOf(ahead...)...)
	}
}

// P7.1: room behind the bytes is none of them.
func TestScanReadsNoRoomBehind(t *testing.T) {
	b := logOf(drop(1), drop(2))
	for end := range b {
		scans(t, fmt.Sprintf("%d with room", end), b[:end], piecesOf(drop(1))[:end/14]...)
		scans(t, fmt.Sprintf("%d with none", end), slices.Clip(bytes.Clone(b[:end])), piecesOf(drop(1))[:end/14]...)
	}
}

// P7.1: bytes ahead of the first frame are no log, but from their end on they are.
func TestScanOfBytesAhead(t *testing.T) {
	b := logOf(drop(1), each(), drop(2))
	for from := 1; from < 14; from++ {
		scans(t, fmt.Sprintf("from %d on", from), b[from:])
	}
	scans(t, "from the second one on", b[14:], piecesOf(each(), drop(2))...)
	for _, ahead := range [][]byte{{0}, {255}, {1, 0, 0, 0}, make([]byte, 8)} {
		scans(t, fmt.Sprintf("%v ahead", ahead), join(ahead, b))
	}
}

// P7.2
func TestScanTellsNewMemory(t *testing.T) {
	all := lists()
	b := logOf(all...)
	was := bytes.Clone(b)
	first, _ := torn.Scan(b)
	second, _ := torn.Scan(b)
	for i := range b {
		b[i] ^= 255
	}
	if !samePieces(first, piecesOf(all...)) || !samePieces(second, piecesOf(all...)) {
		t.Error("a change of the bytes is seen in what was told")
	}
	copy(b, was)
	for i := range first {
		for j := range first[i].L {
			first[i].L[j] = api.Record{Kind: 9, Key: "another"}
		}
		first[i].At, first[i].Len = -1, -1
	}
	if !bytes.Equal(b, was) || !samePieces(second, piecesOf(all...)) {
		t.Error("a change of what was told is seen elsewhere")
	}
	scans(t, "the same bytes again", b, piecesOf(all...)...)
}

// P7.2: also no two lists of one answer share memory, nor do they in the room behind them.
func TestScanTellsListsOfTheirOwn(t *testing.T) {
	all := lists()
	pieces, _ := torn.Scan(logOf(all...))
	for i := range pieces {
		for range 100 {
			pieces[i].L = append(pieces[i].L, api.Record{Kind: 9})
		}
		for j := range all[i] {
			pieces[i].L[j].Key = "another"
		}
		for k := i + 1; k < len(pieces); k++ {
			if !slices.Equal(pieces[k].L, all[k]) {
				t.Fatalf("a change of piece %d is seen in piece %d", i, k)
			}
		}
	}
}

// P7.2, R2: what is behind the bytes stays as it is too.
func TestScanLeavesWhatItIsGiven(t *testing.T) {
	wrong := logOf(drop(1), drop(2))
	wrong[20]++
	for _, b := range [][]byte{{1, 2, 3}, head(0, 7), head(20001, 7), wrong, logOf(each()), framed([]byte("x"))} {
		memory := append(bytes.Clone(b), bytes.Repeat([]byte{'.'}, 64)...)
		was := bytes.Clone(memory)
		torn.Scan(memory[:len(b)])
		torn.Whole(memory[:len(b)])
		if !bytes.Equal(memory, was) {
			t.Errorf("%v became %v", was, memory)
		}
	}
}

// P7.2: nothing is kept from call to call.
func TestNothingIsKept(t *testing.T) {
	b := logOf(each(), drop(1))
	for range 3 {
		scans(t, "two frames", b, piecesOf(each(), drop(1))...)
		scans(t, "nothing", nil)
		scans(t, "no frame", []byte("what is no frame"))
	}
}

// ahead are how many of these pieces end at a cut, or ahead of it.
func ahead(pieces []torn.Piece, cut int) []torn.Piece {
	count := 0
	for _, p := range pieces {
		if p.At+p.Len <= cut {
			count++
		}
	}
	return pieces[:count]
}

// P7.3
func TestFramesCutAnywhere(t *testing.T) {
	for i, all := range [][][]api.Record{
		{drop(1)}, {drop(1), drop(2)}, {each()}, {each(), drop(1)}, {drop(1), each()}, {each()[:7], each()[7:14], each()[14:]}, lists()[:21], {ofBytes(300), ofBytes(27), ofBytes(256)},
	} {
		b, pieces := logOf(all...), piecesOf(all...)
		for cut := range len(b) + 1 {
			scans(t, fmt.Sprintf("log %d cut at %d", i, cut), b[:cut], ahead(pieces, cut)...)
		}
	}
}

// P7.3: around each end, and at some bytes between, also of long frames.
func TestLongFramesCut(t *testing.T) {
	b, pieces := logOf(lists()...), piecesOf(lists()...)
	for i, p := range pieces {
		for _, cut := range []int{p.At, p.At + 1, p.At + 7, p.At + 8, p.At + 9, p.At + p.Len/2, p.At + p.Len - 1, p.At + p.Len} {
			scans(t, fmt.Sprintf("piece %d cut at %d", i, cut-p.At), b[:cut], ahead(pieces, cut)...)
		}
	}
}

// P7.3: what was told is whole, and is told again.
func TestWhatWasToldIsWhole(t *testing.T) {
	logs := [][]byte{nil, {0}, logOf(lists()...), join(logOf(each()), []byte("x")), join(logOf(drop(1)), framed([]byte("x")), logOf(drop(2)))}
	b := logOf(each()[:7], drop(1), each()[7:])
	for cut := range b {
		logs = append(logs, b[:cut])
	}
	for what, body := range notRecords() {
		logs = append(logs, join(logOf(drop(1), each()), framed(body), []byte(what)))
	}
	for _, b := range logs {
		pieces, n := torn.Scan(b)
		again, m := torn.Scan(b[:n])
		if !torn.Whole(b[:n]) || m != n || !samePieces(pieces, again) {
			t.Errorf("of %d bytes %d, and again %d", len(b), n, m)
		}
	}
}

// P7.3: what was cut off and is put back makes the log whole, as does another frame that goes there.
func TestWhatWasCutGoesOn(t *testing.T) {
	b := logOf(each()[:7], drop(1))
	for cut := range b {
		pieces, n := torn.Scan(b[:cut])
		scans(t, "what was cut, put back", join(b[:cut], b[cut:]), piecesOf(each()[:7], drop(1))...)
		next := torn.Piece{At: n, Len: 14, L: drop(9)}
		scans(t, "another one behind what was told", join(b[:n], logOf(drop(9))), append(pieces, next)...)
	}
}

// P7.1, P7.3: what layers 5 and 6 put is told as it was put.
func TestScanOfWhatWasPut(t *testing.T) {
	var b []byte
	for _, l := range lists() {
		body, err := record.Put(l)
		if err != nil {
			t.Fatal(err)
		}
		f, err := frame.Put(body)
		if err != nil {
			t.Fatal(err)
		}
		b = append(b, f...)
	}
	scans(t, "what was put", b, piecesOf(lists()...)...)
}

// changed is a log with one of its bytes, its end, or what lies between its frames changed, as it falls.
func changed(random *rand.Rand, b []byte, all [][]api.Record) []byte {
	switch random.Intn(8) {
	case 0:
		return b[:random.Intn(len(b)+1)]
	case 1:
		if len(b) > 0 {
			b[random.Intn(len(b))] ^= byte(1 + random.Intn(255))
		}
	case 2:
		junk := make([]byte, random.Intn(20))
		random.Read(junk)
		return append(b, junk...)
	case 3:
		body := told(all[random.Intn(len(all))]...)
		body[random.Intn(len(body))] = byte(random.Intn(256))
		return join(b, framed(body), logOf(drop(8)))
	case 4:
		return join(b, framed(told(api.Record{Kind: random.Intn(10), Bucket: random.Intn(70), Gen: uint32(random.Intn(2))})), b)
	case 5:
		random.Read(b)
	}
	return b
}

// P7.1, P1: of any bytes, and of logs with any of their bytes changed, cut off or with others behind.
func TestScanAsTheModel(t *testing.T) {
	random := rand.New(rand.NewSource(7))
	all := lists()[:30]
	var seen [8]int
	halves := 0
	for range 20000 {
		var chosen [][]api.Record
		for range random.Intn(5) {
			chosen = append(chosen, all[random.Intn(len(all))])
		}
		b := changed(random, logOf(chosen...), all)
		want, end := model(b)
		pieces, n := torn.Scan(b)
		if !samePieces(pieces, want) || n != end || torn.Whole(b) != (end == len(b)) {
			t.Fatalf("Scan(%v) is %v, %d, not %v, %d", b, pieces, n, want, end)
		}
		seen[min(len(want), 7)]++
		if end != len(b) {
			halves++
		}
	}
	for count, times := range seen[:5] {
		if times < 100 {
			t.Errorf("%d pieces were told %d times only", count, times)
		}
	}
	if halves < 1000 {
		t.Errorf("%d logs only weren't whole", halves)
	}
}

// P7.1, P1: a frame whose lengths and kinds are any small numbers.
func TestScanOfSmallBodiesAsTheModel(t *testing.T) {
	random := rand.New(rand.NewSource(8))
	good := 0
	for range 50000 {
		body := make([]byte, 6+random.Intn(24))
		for i := range body {
			body[i] = byte(random.Intn(3))
		}
		body[0] = byte(random.Intn(9))
		if body[0] == 2 || body[0] == 7 {
			body = body[:6*(1+random.Intn(len(body)/6))]
		}
		binary.LittleEndian.PutUint32(body[2:], uint32(random.Intn(3)))
		b := join(framed(body), logOf(drop(1)))
		want, end := model(b)
		pieces, n := torn.Scan(b)
		if !samePieces(pieces, want) || n != end {
			t.Fatalf("Scan(%v) is %v, %d, not %v, %d", b, pieces, n, want, end)
		}
		good += len(want) / 2
	}
	if good < 1000 {
		t.Errorf("%d bodies only were records", good)
	}
}
