package crc_test

import (
	"bytes"
	"hash/crc32"
	"math/rand"
	"strings"
	"testing"

	"hassock/crc"
)

// told is the sum bit by bit, in the chapter's own order of steps.
func told(b []byte) uint32 {
	register := uint32(0xFFFFFFFF)
	for _, c := range b {
		for bit := range 8 {
			one := register&1 ^ uint32(c>>bit)&1
			register >>= 1
			if one == 1 {
				register ^= 3988292384
			}
		}
	}
	return ^register
}

// texts are of many lengths and kinds, the same ones at each run.
func texts() [][]byte {
	r := rand.New(rand.NewSource(1))
	l := [][]byte{nil, {}, {0}, {255}, []byte("123456789"), bytes.Repeat([]byte{0}, 40), bytes.Repeat([]byte{255}, 40)}
	for n := 1; n <= 70; n++ {
		b := make([]byte, n)
		r.Read(b)
		l = append(l, b)
	}
	return l
}

// P1.1
func TestSumOfKnownTexts(t *testing.T) {
	for _, c := range []struct {
		text string
		want uint32
	}{
		{"", 0},
		{"\x00", 0xD202EF8D},
		{"\xff", 0xFF000000},
		{"\x00\x00\x00\x00", 0x2144DF1C},
		{"\xff\xff\xff\xff", 0xFFFFFFFF},
		{"a", 0xE8B7BE43},
		{"abc", 0x352441C2},
		{"123456789", 3421780262},
		{"The quick brown fox jumps over the lazy dog", 0x414FA339},
	} {
		if n := crc.Sum([]byte(c.text)); n != c.want {
			t.Errorf("Sum(%q) is %#x, not %#x", c.text, n, c.want)
		}
	}
}

// P1.1
func TestSumOfNoBytes(t *testing.T) {
	if n := crc.Sum(nil); n != 0 {
		t.Errorf("Sum(nil) is %#x", n)
	}
	if n := crc.Sum([]byte{}); n != 0 {
		t.Errorf("Sum of an empty slice is %#x", n)
	}
}

// P1.1
func TestSumOfEachByte(t *testing.T) {
	for c := range 256 {
		b := []byte{byte(c)}
		if n, want := crc.Sum(b), told(b); n != want {
			t.Errorf("Sum(%v) is %#x, not %#x", b, n, want)
		}
	}
}

// P1.1
func TestSumAsTold(t *testing.T) {
	for _, b := range texts() {
		n := crc.Sum(b)
		if want := told(b); n != want {
			t.Errorf("Sum(%v) is %#x, bit by bit %#x", b, n, want)
		}
		if want := crc32.ChecksumIEEE(b); n != want {
			t.Errorf("Sum(%v) is %#x, the library's %#x", b, n, want)
		}
	}
}

// P1.1
func TestSumOfManyBytes(t *testing.T) {
	b := []byte(strings.Repeat("one log for many tenants; ", 40000))
	if n, want := crc.Sum(b), crc32.ChecksumIEEE(b); n != want {
		t.Errorf("Sum of %d bytes is %#x, not %#x", len(b), n, want)
	}
}

// P1.1
func TestAddInTwoParts(t *testing.T) {
	for _, b := range texts() {
		want := told(b)
		for i := 0; i <= len(b); i++ {
			if n := crc.Add(crc.Sum(b[:i]), b[i:]); n != want {
				t.Errorf("%v in parts at %d: %#x, not %#x", b, i, n, want)
			}
		}
	}
}

// P1.1
func TestAddByteByByte(t *testing.T) {
	for _, b := range texts() {
		sum := crc.Sum(nil)
		for _, c := range b {
			sum = crc.Add(sum, []byte{c})
		}
		if want := told(b); sum != want {
			t.Errorf("%v byte by byte: %#x, not %#x", b, sum, want)
		}
	}
}

// P1.1: each number is the sum of some bytes.
func TestAddToAnySum(t *testing.T) {
	for _, sum := range []uint32{0, 1, 0x7FFFFFFF, 0x80000000, 0xEDB88320, 0xFFFFFFFE, 0xFFFFFFFF} {
		if n := crc.Add(sum, nil); n != sum {
			t.Errorf("Add(%#x, nil) is %#x", sum, n)
		}
		if n := crc.Add(sum, []byte{}); n != sum {
			t.Errorf("Add(%#x, no bytes) is %#x", sum, n)
		}
		for _, b := range texts() {
			if n, want := crc.Add(sum, b), crc32.Update(sum, crc32.IEEETable, b); n != want {
				t.Errorf("Add(%#x, %v) is %#x, not %#x", sum, b, n, want)
			}
		}
	}
}

// P1.2
func TestTableRowByRow(t *testing.T) {
	table := crc.Table()
	for i, row := range table {
		want := uint32(i)
		for range 8 {
			if want%2 == 1 {
				want = want/2 ^ 3988292384
			} else {
				want = want / 2
			}
		}
		if row != want {
			t.Errorf("row %d is %#x, not %#x", i, row, want)
		}
		if row != crc32.IEEETable[i] {
			t.Errorf("row %d is %#x, the library's %#x", i, row, crc32.IEEETable[i])
		}
	}
}

// P1.2
func TestTableOfKnownRows(t *testing.T) {
	table := crc.Table()
	for _, c := range []struct {
		row  int
		want uint32
	}{{0, 0}, {1, 0x77073096}, {2, 0xEE0E612C}, {128, 0xEDB88320}, {254, 0x5A05DF1B}, {255, 0x2D02EF8D}} {
		if table[c.row] != c.want {
			t.Errorf("row %d is %#x, not %#x", c.row, table[c.row], c.want)
		}
	}
}

// P1.1, P1.2: the sum goes by the table's rows.
func TestTableTellsTheSum(t *testing.T) {
	table := crc.Table()
	for _, b := range texts() {
		register := uint32(0xFFFFFFFF)
		for _, c := range b {
			register = register>>8 ^ table[byte(register)^c]
		}
		if n := crc.Sum(b); n != ^register {
			t.Errorf("Sum(%v) is %#x, by the table %#x", b, n, ^register)
		}
	}
}

// R2
func TestTableIsNewEachTime(t *testing.T) {
	first := crc.Table()
	for i := range first {
		first[i] = 7
	}
	second := crc.Table()
	if second[0] != 0 || second[255] != 0x2D02EF8D {
		t.Errorf("a change of one table is seen in another: %#x, %#x", second[0], second[255])
	}
	if n := crc.Sum([]byte("123456789")); n != 3421780262 {
		t.Errorf("a change of a table is seen in a sum: %#x", n)
	}
}

// P1.3
func TestOneByteChanged(t *testing.T) {
	for _, b := range texts() {
		changed := bytes.Clone(b)
		want := crc.Sum(b)
		for i := range b {
			for c := range 256 {
				changed[i] = byte(c)
				if n := crc.Sum(changed); (n == want) != (changed[i] == b[i]) {
					t.Errorf("%v with %d at %d: %#x, unchanged %#x", b, c, i, n, want)
				}
			}
			changed[i] = b[i]
		}
	}
}

// P1.3
func TestOneByteChangedInALongText(t *testing.T) {
	b := []byte(strings.Repeat("hassock ", 2500))
	want := crc.Sum(b)
	for _, i := range []int{0, 1, 255, 256, 9999, len(b) - 1} {
		was := b[i]
		for x := 1; x < 256; x++ {
			b[i] = was ^ byte(x)
			if crc.Sum(b) == want {
				t.Errorf("byte %d xored with %d: the same sum", i, x)
			}
		}
		b[i] = was
	}
}

// R2
func TestBytesStayAsTheyAre(t *testing.T) {
	b := []byte("123456789")
	crc.Sum(b)
	crc.Add(5, b)
	if string(b) != "123456789" {
		t.Errorf("the bytes became %q", b)
	}
}
