package pack_test

import (
	"bytes"
	"encoding/binary"
	"fmt"
	"math"
	"math/rand"
	"strings"
	"testing"

	"hassock/pack"
)

// numbers have each byte at its ends, and others.
var numbers = []uint64{
	0, 1, 2, 127, 128, 255, 256, 258, 65535, 65536, 1<<24 - 1, 1 << 24, 1<<31 - 1, 1 << 31, 1<<32 - 1, 1 << 32,
	1 << 40, 1<<56 - 1, 1 << 56, 1<<63 - 1, 1 << 63, math.MaxUint64, 0x0102030405060708, 0xF0E0D0C0B0A09080,
}

// noWidths are counts of bytes that no number has.
var noWidths = []int{math.MinInt, -256, -9, -8, -2, -1, 0, 9, 10, 16, 64, 257, 264, math.MaxInt}

// lengths of texts, with the edges of one byte and of two.
var lengths = []int{0, 1, 2, 3, 254, 255, 256, 257, 511, 512, 32767, 32768, 65279, 65280, 65534, 65535}

// textOf is a text of so many bytes, no two near ones of which are the same.
func textOf(length int) string {
	b := make([]byte, length)
	for i := range b {
		b[i] = byte(i*7 + i/256)
	}
	return string(b)
}

// lowest is n's lowest so many bytes, as the library has them.
func lowest(n uint64, width int) []byte {
	return binary.LittleEndian.AppendUint64(nil, n)[:width]
}

// cut is n with no more than its lowest so many bytes.
func cut(n uint64, width int) uint64 {
	if width == 8 {
		return n
	}
	return n % (1 << (8 * width))
}

// holds tells of a reader what it has left, and whether it is short.
func holds(t *testing.T, what string, r *pack.Reader, left int, short bool) {
	t.Helper()
	if r.Left() != left || r.Short() != short {
		t.Errorf("%s: Left is %d and Short %v, not %d and %v", what, r.Left(), r.Short(), left, short)
	}
}

// staysShort asks a reader that must be short for all that there is, twice.
func staysShort(t *testing.T, what string, r *pack.Reader) {
	t.Helper()
	for range 2 {
		for width := -1; width <= 10; width++ {
			if n := r.Number(width); n != 0 {
				t.Errorf("%s: short, and Number(%d) is %d", what, width, n)
			}
			holds(t, what, r, 0, true)
		}
		if s := r.Text(); s != "" {
			t.Errorf("%s: short, and Text is %q", what, s)
		}
		holds(t, what, r, 0, true)
	}
}

// P2.1
func TestPutKnownNumbers(t *testing.T) {
	for _, c := range []struct {
		n     uint64
		width int
		want  []byte
	}{
		{258, 2, []byte{2, 1}},
		{0, 1, []byte{0}},
		{255, 1, []byte{255}},
		{256, 1, []byte{0}},
		{0x12345, 2, []byte{0x45, 0x23}},
		{0x12345, 3, []byte{0x45, 0x23, 1}},
		{0x12345, 4, []byte{0x45, 0x23, 1, 0}},
		{1, 8, []byte{1, 0, 0, 0, 0, 0, 0, 0}},
		{1 << 56, 7, []byte{0, 0, 0, 0, 0, 0, 0}},
		{1 << 56, 8, []byte{0, 0, 0, 0, 0, 0, 0, 1}},
		{0x0102030405060708, 8, []byte{8, 7, 6, 5, 4, 3, 2, 1}},
		{math.MaxUint64, 8, bytes.Repeat([]byte{255}, 8)},
	} {
		if b := pack.Put(nil, c.n, c.width); !bytes.Equal(b, c.want) {
			t.Errorf("Put(nil, %d, %d) is %v, not %v", c.n, c.width, b, c.want)
		}
	}
}

// P2.1
func TestPutEachWidthBehindBytes(t *testing.T) {
	for _, n := range numbers {
		for width := 1; width <= 8; width++ {
			for _, out := range []string{"", "\x00", "ab", textOf(300)} {
				want := out + string(lowest(n, width))
				if b := pack.Put([]byte(out), n, width); string(b) != want {
					t.Errorf("Put(%d bytes, %#x, %d) is %v, not %v", len(out), n, width, b, []byte(want))
				}
			}
		}
	}
}

// P2.1
func TestPutOfNoWidth(t *testing.T) {
	for _, width := range noWidths {
		if b := pack.Put(nil, math.MaxUint64, width); len(b) != 0 {
			t.Errorf("Put(nil, .., %d) is %v", width, b)
		}
		if b := pack.Put([]byte("abc"), math.MaxUint64, width); string(b) != "abc" {
			t.Errorf("Put(abc, .., %d) is %q", width, b)
		}
	}
}

// P2.1
func TestPutKnownTexts(t *testing.T) {
	for _, c := range []struct{ out, text, want string }{
		{"", "", "\x00\x00"},
		{"x", "", "x\x00\x00"},
		{"", "a", "\x01\x00a"},
		{"x", "ab", "x\x02\x00ab"},
		{"", "\x00\x00", "\x02\x00\x00\x00"},
		{"", "\xff\xfe", "\x02\x00\xff\xfe"},
		{"", "\u00e9", "\x02\x00\xc3\xa9"},
		{"", "\u20ac!", "\x04\x00\xe2\x82\xac!"},
	} {
		if b := pack.PutText([]byte(c.out), c.text); string(b) != c.want {
			t.Errorf("PutText(%q, %q) is %q, not %q", c.out, c.text, b, c.want)
		}
	}
	if b := pack.PutText(nil, "ab"); string(b) != "\x02\x00ab" {
		t.Errorf("PutText(nil, ab) is %q", b)
	}
}

// P2.1
func TestPutTextOfEachLength(t *testing.T) {
	for _, length := range lengths {
		s := textOf(length)
		want := "x" + string([]byte{byte(length), byte(length >> 8)}) + s
		if b := pack.PutText([]byte("x"), s); string(b) != want {
			t.Errorf("PutText of %d bytes is %d bytes, not the %d that it should", length, len(b), len(want))
		}
	}
}

// P2.1
func TestPutTextThatIsTooLong(t *testing.T) {
	for _, length := range []int{65536, 65537, 65600, 131071, 131072, 200000} {
		s := textOf(length)
		want := "x\xff\xff" + s[:65535]
		if b := pack.PutText([]byte("x"), s); string(b) != want {
			t.Errorf("PutText of %d bytes is %d bytes, not the first 65535 behind their number", length, len(b))
		}
	}
}

// P2.2
func TestNumberOfEachWidth(t *testing.T) {
	for width := 1; width <= 8; width++ {
		for _, n := range numbers {
			for more := range 3 {
				what := fmt.Sprintf("%#x in %d bytes, and %d", n, width, more)
				r := pack.New(append(lowest(n, width), make([]byte, more)...))
				holds(t, what, r, width+more, false)
				if got, want := r.Number(width), cut(n, width); got != want {
					t.Errorf("%s: %#x, not %#x", what, got, want)
				}
				holds(t, what, r, more, false)
			}
		}
	}
}

// P2.2
func TestNumberOneBehindTheOther(t *testing.T) {
	r := pack.New([]byte{1, 2, 1, 3, 2, 1, 255, 0, 0, 1})
	for i, c := range []struct {
		width int
		want  uint64
		left  int
	}{{1, 1, 9}, {2, 0x0102, 7}, {3, 0x010203, 4}, {4, 0x010000FF, 0}} {
		what := fmt.Sprint("number ", i)
		if n := r.Number(c.width); n != c.want {
			t.Errorf("%s is %#x, not %#x", what, n, c.want)
		}
		holds(t, what, r, c.left, false)
	}
}

// P2.2
func TestNumberOfNoWidthTakesNothing(t *testing.T) {
	for _, width := range noWidths {
		what := fmt.Sprintf("Number(%d)", width)
		for _, b := range []string{"", "\x07", textOf(20)} {
			r := pack.New([]byte(b))
			if n := r.Number(width); n != 0 {
				t.Errorf("%s of %d bytes is %d", what, len(b), n)
			}
			holds(t, what, r, len(b), false)
		}
		r := pack.New([]byte{7, 8})
		r.Number(1)
		r.Number(width)
		if n := r.Number(1); n != 8 {
			t.Errorf("behind %s comes %d, not 8", what, n)
		}
		holds(t, what, r, 0, false)
	}
}

// P2.2
func TestNumberCutOff(t *testing.T) {
	for width := 1; width <= 8; width++ {
		for length := range width {
			what := fmt.Sprintf("Number(%d) of %d bytes", width, length)
			r := pack.New(bytes.Repeat([]byte{255}, length))
			if n := r.Number(width); n != 0 {
				t.Errorf("%s is %#x", what, n)
			}
			staysShort(t, what, r)
		}
	}
}

// P2.2: what one number leaves is too little for the next one.
func TestNumberCutOffBehindAnother(t *testing.T) {
	r := pack.New([]byte{1, 2, 3, 4, 5})
	if n := r.Number(4); n != 0x04030201 {
		t.Errorf("the first number is %#x", n)
	}
	holds(t, "behind the first", r, 1, false)
	if n := r.Number(2); n != 0 {
		t.Errorf("the number that is cut off is %#x", n)
	}
	staysShort(t, "behind the second", r)
}

// P2.2
func TestTextOfKnownBytes(t *testing.T) {
	for _, c := range []struct {
		b, want string
		left    int
	}{
		{"\x00\x00", "", 0},
		{"\x00\x00ab", "", 2},
		{"\x01\x00a", "a", 0},
		{"\x01\x00ab", "a", 1},
		{"\x02\x00\x00\xff", "\x00\xff", 0},
		{"\x00\x01" + textOf(256), textOf(256), 0},
		{"\x00\x01" + textOf(256) + "xyz", textOf(256), 3},
		{"\xff\xff" + textOf(65535), textOf(65535), 0},
		{"\xff\xff" + textOf(65536), textOf(65536)[:65535], 1},
	} {
		what := fmt.Sprintf("%.10q", c.b)
		r := pack.New([]byte(c.b))
		if s := r.Text(); s != c.want {
			t.Errorf("%s: %.10q of %d bytes, not %.10q of %d", what, s, len(s), c.want, len(c.want))
		}
		holds(t, what, r, c.left, false)
	}
}

// P2.2
func TestTextCutOff(t *testing.T) {
	for _, length := range []int{0, 1, 2, 5, 255, 256, 65535} {
		whole := pack.PutText(nil, textOf(length))
		for _, end := range []int{0, 1, 2, 3, len(whole) / 2, len(whole) - 1} {
			if end < 0 || end >= len(whole) {
				continue
			}
			what := fmt.Sprintf("a text of %d bytes, cut at %d", length, end)
			r := pack.New(whole[:end])
			if s := r.Text(); s != "" {
				t.Errorf("%s: %.10q", what, s)
			}
			staysShort(t, what, r)
		}
	}
}

// P2.2: a text that is cut off takes none of the bytes that are there.
func TestTextCutOffBehindAnother(t *testing.T) {
	r := pack.New([]byte("\x01\x00a\x04\x00bcd"))
	if s := r.Text(); s != "a" {
		t.Errorf("the first text is %q", s)
	}
	holds(t, "behind the first", r, 5, false)
	if s := r.Text(); s != "" {
		t.Errorf("the text that is cut off is %q", s)
	}
	staysShort(t, "behind the second", r)
}

// P2.2
func TestReaderOfNoBytes(t *testing.T) {
	for _, b := range [][]byte{nil, {}} {
		r := pack.New(b)
		holds(t, "no bytes", r, 0, false)
		if n := r.Number(1); n != 0 {
			t.Errorf("Number(1) of no bytes is %d", n)
		}
		staysShort(t, "no bytes, a number", r)

		r = pack.New(b)
		if s := r.Text(); s != "" {
			t.Errorf("Text of no bytes is %q", s)
		}
		staysShort(t, "no bytes, a text", r)
	}
}

// P2.2: asking changes nothing, and the end itself isn't beyond the end.
func TestLeftAndShortTakeNothing(t *testing.T) {
	r := pack.New([]byte{1, 2, 3})
	for left := 3; left > 0; left-- {
		holds(t, "first", r, left, false)
		holds(t, "again", r, left, false)
		r.Number(1)
	}
	holds(t, "at the end", r, 0, false)
}

// P2.3
func TestWhatIsReadIsNotKept(t *testing.T) {
	b := []byte("\x02\x01\x03\x00abc\x01\x00d")
	was := bytes.Clone(b)
	r := pack.New(b)
	other := pack.New(b)
	for i := range b {
		b[i] = 255
	}
	if n := r.Number(2); n != 258 {
		t.Errorf("the number is %d", n)
	}
	first := r.Text()
	second := r.Text()
	if first != "abc" || second != "d" || r.Short() {
		t.Errorf("the texts are %q and %q", first, second)
	}
	holds(t, "another reader of the same bytes", other, len(was), false)
	if n := other.Number(2); n != 258 {
		t.Errorf("another reader's number is %d", n)
	}
}

// P2.3
func TestWhatIsReadIsNotChanged(t *testing.T) {
	whole := []byte("\x02\x01\x03\x00abc\x09\x00d....")
	was := bytes.Clone(whole)
	r := pack.New(whole[:10])
	r.Number(2)
	r.Text()
	r.Text()
	r.Number(8)
	if !bytes.Equal(whole, was) {
		t.Errorf("%v became %v", was, whole)
	}
}

// P2.3: what is put is behind out, whatever memory out has beyond its end.
func TestPutLeavesWhatIsAhead(t *testing.T) {
	for spare := range 12 {
		memory := append([]byte("abc"), bytes.Repeat([]byte{'.'}, spare)...)
		out := memory[:3]
		if b := pack.Put(out, 0x0807060504030201, 8); string(b) != "abc\x01\x02\x03\x04\x05\x06\x07\x08" {
			t.Errorf("with room for %d: a number becomes %q", spare, b)
		}
		if string(out) != "abc" {
			t.Errorf("with room for %d: a number behind abc makes it %q", spare, out)
		}
		if b := pack.PutText(out, "defghi"); string(b) != "abc\x06\x00defghi" {
			t.Errorf("with room for %d: a text becomes %q", spare, b)
		}
		if string(out) != "abc" {
			t.Errorf("with room for %d: a text behind abc makes it %q", spare, out)
		}
	}
}

// P2.3: a later change of out isn't seen in what is put next, nor is a text's.
func TestPutKeepsNothing(t *testing.T) {
	first := pack.PutText(pack.Put(nil, 7, 4), "abc")
	for i := range first {
		first[i] = 255
	}
	second := pack.PutText(pack.Put(nil, 7, 4), "abc")
	if string(second) != "\x07\x00\x00\x00\x03\x00abc" {
		t.Errorf("put again it is %q", second)
	}
}

// P2.4
func TestNumbersAreReadAsPut(t *testing.T) {
	for width := 1; width <= 8; width++ {
		var b []byte
		for _, n := range numbers {
			b = pack.Put(b, n, width)
		}
		r := pack.New(b)
		for i, n := range numbers {
			if got, want := r.Number(width), cut(n, width); got != want {
				t.Errorf("number %d in %d bytes is %#x, not %#x", i, width, got, want)
			}
		}
		holds(t, "all numbers", r, 0, false)
	}
}

// P2.4
func TestTextsAreReadAsPut(t *testing.T) {
	var b []byte
	for _, length := range lengths {
		b = pack.PutText(b, textOf(length))
	}
	b = pack.PutText(b, textOf(65536))
	r := pack.New(b)
	for _, length := range lengths {
		if s := r.Text(); s != textOf(length) {
			t.Errorf("a text of %d bytes is read as one of %d, or with others", length, len(s))
		}
	}
	if s := r.Text(); s != textOf(65536)[:65535] {
		t.Errorf("a text of 65536 bytes is read as one of %d, or with others", len(s))
	}
	holds(t, "all texts", r, 0, false)
}

// item is a number, or a text if its width is 0.
type item struct {
	n     uint64
	width int
	text  string
}

// items are as many as asked for, of all kinds.
func items(random *rand.Rand, count int) []item {
	l := make([]item, count)
	for i := range l {
		l[i] = item{n: random.Uint64(), width: random.Intn(9)}
		if l[i].width == 0 {
			b := make([]byte, random.Intn(40)*random.Intn(40))
			random.Read(b)
			l[i] = item{text: string(b)}
		}
	}
	return l
}

// putAll is all items, one behind the other, and where each one ends.
func putAll(l []item) ([]byte, []int) {
	var b []byte
	var ends []int
	for _, x := range l {
		if x.width == 0 {
			b = pack.PutText(b, x.text)
		} else {
			b = pack.Put(b, x.n, x.width)
		}
		ends = append(ends, len(b))
	}
	return b, ends
}

// readAsPut reads one item, and tells whether it is as it was put.
func readAsPut(r *pack.Reader, x item) bool {
	if x.width == 0 {
		return r.Text() == x.text
	}
	return r.Number(x.width) == cut(x.n, x.width)
}

// P2.4
func TestItemsAreReadAsPut(t *testing.T) {
	random := rand.New(rand.NewSource(2))
	for range 200 {
		l := items(random, random.Intn(20))
		b, ends := putAll(l)
		r := pack.New(b)
		for i, x := range l {
			if !readAsPut(r, x) {
				t.Errorf("item %d of %v is read as another", i, l)
			}
			holds(t, "an item", r, len(b)-ends[i], false)
		}
	}
}

// P2.2, P2.4: of items cut anywhere those ahead of the cut are read, no other.
func TestItemsCutAnywhere(t *testing.T) {
	random := rand.New(rand.NewSource(3))
	for range 20 {
		l := items(random, 5)
		b, ends := putAll(l)
		for end := 0; end < len(b); end++ {
			r := pack.New(b[:end])
			for i, x := range l {
				if ends[i] <= end {
					if !readAsPut(r, x) {
						t.Errorf("cut at %d: item %d is read as another", end, i)
					}
					holds(t, "ahead of the cut", r, end-ends[i], false)
					continue
				}
				if x.width == 0 && r.Text() != "" || x.width > 0 && r.Number(x.width) != 0 {
					t.Errorf("cut at %d: item %d is something", end, i)
				}
				holds(t, "at the cut", r, 0, true)
			}
		}
	}
}

// P1: of any bytes, any calls end, and no more is told than there is.
func TestReaderOfAnyBytes(t *testing.T) {
	random := rand.New(rand.NewSource(4))
	for range 2000 {
		b := make([]byte, random.Intn(30))
		random.Read(b)
		if len(b) > 2 {
			b[1] = byte(random.Intn(2))
			b[0] %= 32
		}
		r := pack.New(b)
		told := 0
		for range 20 {
			before, short := r.Left(), r.Short()
			if width := random.Intn(12) - 2; width == 0 {
				told += len(r.Text())
			} else {
				r.Number(width)
			}
			if r.Left() > before || r.Left() < 0 || short && !r.Short() || r.Short() && r.Left() != 0 {
				t.Errorf("%v: Left %d, Short %v, became %d, %v", b, before, short, r.Left(), r.Short())
			}
		}
		if told > len(b) {
			t.Errorf("%v: texts of %d bytes", b, told)
		}
	}
}

// P2.3: a text that was told stays as it was, whatever is read next.
func TestTextStaysAsTold(t *testing.T) {
	var b []byte
	for range 3 {
		b = pack.PutText(b, strings.Repeat("z", 50))
	}
	r := pack.New(b)
	first := r.Text()
	r.Text()
	r.Text()
	r.Text()
	if first != strings.Repeat("z", 50) {
		t.Errorf("the first text became %q", first)
	}
}
