package frame_test

import (
	"bytes"
	"encoding/binary"
	"fmt"
	"hash/crc32"
	"math"
	"math/rand"
	"testing"

	"hassock/api"
	"hassock/frame"
)

// itself is a code that was told itself; 0 is no error, -1 another one.
func itself(err error) api.Code {
	if err == nil {
		return 0
	}
	if code, is := err.(api.Code); is {
		return code
	}
	return -1
}

// head is a frame's first eight bytes, as the library has such numbers.
func head(length, sum uint32) []byte {
	return binary.LittleEndian.AppendUint32(binary.LittleEndian.AppendUint32(nil, length), sum)
}

// told is a frame as the chapter's head tells it, by the library alone.
func told(body []byte) []byte {
	return append(head(uint32(len(body)), crc32.ChecksumIEEE(body)), body...)
}

// bodyOf is a body of so many bytes, no two near ones of which are the same.
func bodyOf(length int) []byte {
	b := make([]byte, length)
	for i := range b {
		b[i] = byte(i*7 + i/256 + 1)
	}
	return b
}

// bodies are of many lengths and kinds, the same ones at each run.
func bodies() [][]byte {
	random := rand.New(rand.NewSource(1))
	l := [][]byte{
		{0}, {1}, {255}, []byte("a"), []byte("123456789"),
		bytes.Repeat([]byte{0}, 40), bytes.Repeat([]byte{255}, 40), told([]byte("a frame in a frame")),
	}
	for length := 1; length <= 40; length++ {
		b := make([]byte, length)
		random.Read(b)
		l = append(l, b)
	}
	for _, length := range []int{254, 255, 256, 257, 511, 512, 4096, 19999, api.MaxFrame} {
		l = append(l, bodyOf(length))
	}
	return l
}

// put makes a frame that must be one.
func put(t *testing.T, body []byte) []byte {
	t.Helper()
	b, err := frame.Put(body)
	if err != nil {
		t.Fatalf("Put of %d bytes: %v", len(body), err)
	}
	return b
}

// gets tells of bytes that they must have a frame of this body in front.
func gets(t *testing.T, what string, b, want []byte) {
	t.Helper()
	body, n, err := frame.Get(b)
	if err != nil || n != len(want)+8 || !bytes.Equal(body, want) {
		t.Errorf("%s: a body of %d bytes, %d and %v, not of %d bytes, %d", what, len(body), n, err, len(want), len(want)+8)
	}
}

// refuses tells of bytes that they must have none, with nothing told beside the code.
func refuses(t *testing.T, what string, b []byte, want api.Code) {
	t.Helper()
	body, n, err := frame.Get(b)
	if itself(err) != want {
		t.Errorf("%s: %v, not %v", what, err, want)
	}
	if body != nil || n != 0 {
		t.Errorf("%s: %d bytes and %d beside an error", what, len(body), n)
	}
}

// P5.1
func TestPutKnownBodies(t *testing.T) {
	for _, c := range []struct{ body, want string }{
		{"123456789", "\x09\x00\x00\x00\x26\x39\xf4\xcb123456789"},
		{"a", "\x01\x00\x00\x00\x43\xbe\xb7\xe8a"},
		{"\x00", "\x01\x00\x00\x00\x8d\xef\x02\xd2\x00"},
		{"\xff", "\x01\x00\x00\x00\x00\x00\x00\xff\xff"},
		{"\xff\xff\xff\xff", "\x04\x00\x00\x00\xff\xff\xff\xff\xff\xff\xff\xff"},
	} {
		if b := put(t, []byte(c.body)); string(b) != c.want {
			t.Errorf("Put(%q) is %q, not %q", c.body, b, c.want)
		}
	}
}

// P5.1
func TestPutAsTold(t *testing.T) {
	for _, body := range bodies() {
		if b := put(t, body); !bytes.Equal(b, told(body)) {
			t.Errorf("Put of %d bytes isn't as told", len(body))
		}
	}
}

// P5.1
func TestPutOfOneByte(t *testing.T) {
	for c := range 256 {
		body := []byte{byte(c)}
		if b := put(t, body); len(b) != 9 || !bytes.Equal(b, told(body)) {
			t.Errorf("Put(%v) is %v", body, b)
		}
	}
}

// P5.1
func TestPutOfTooFewAndTooMany(t *testing.T) {
	for _, c := range []struct {
		what string
		body []byte
	}{
		{"nil", nil},
		{"no bytes", []byte{}},
		{"no bytes, with room", make([]byte, 0, 100)},
		{"no bytes of some", []byte("abc")[:0]},
		{"one more", make([]byte, api.MaxFrame+1)},
		{"two more", bodyOf(api.MaxFrame + 2)},
		{"65536", bodyOf(65536)},
		{"65537", bodyOf(65537)},
		{"2^24 and 1", make([]byte, 1<<24+1)},
	} {
		b, err := frame.Put(c.body)
		if itself(err) != api.ErrLarge || b != nil {
			t.Errorf("Put of %s: %d bytes and %v, not ErrLarge", c.what, len(b), err)
		}
	}
}

// P5.1: the most that may be, and one less.
func TestPutOfTheMost(t *testing.T) {
	for _, length := range []int{19999, 20000} {
		body := bodyOf(length)
		if b := put(t, body); !bytes.Equal(b, told(body)) {
			t.Errorf("Put of %d bytes isn't as told", length)
		}
	}
}

// P5.1
func TestSize(t *testing.T) {
	for _, c := range []struct{ body, want int }{
		{1, 9}, {2, 10}, {9, 17}, {255, 263}, {256, 264}, {19999, 20007}, {api.MaxFrame, 20008},
	} {
		if n := frame.Size(c.body); n != c.want {
			t.Errorf("Size(%d) is %d, not %d", c.body, n, c.want)
		}
	}
}

// P5.1
func TestSizeIsThatOfTheFrame(t *testing.T) {
	for _, body := range bodies() {
		if n := frame.Size(len(body)); n != len(put(t, body)) {
			t.Errorf("Size(%d) is %d, and the frame has %d bytes", len(body), n, len(put(t, body)))
		}
	}
}

// P5.1, P1: no body has so many bytes, so these are eight more by the same rule, with an int's wrap-round.
func TestSizeOfWhatNoBodyHas(t *testing.T) {
	for _, c := range []struct{ body, want int }{
		{0, 8}, {-1, 7}, {-7, 1}, {-8, 0}, {-9, -1}, {-20000, -19992}, {20001, 20009}, {1 << 30, 1<<30 + 8},
		{math.MinInt, math.MinInt + 8}, {math.MaxInt - 8, math.MaxInt}, {math.MaxInt - 7, math.MinInt}, {math.MaxInt, math.MinInt + 7},
	} {
		if n := frame.Size(c.body); n != c.want {
			t.Errorf("Size(%d) is %d, not %d", c.body, n, c.want)
		}
	}
}

// P5.2
func TestGetOfFewerThanEightBytes(t *testing.T) {
	refuses(t, "nil", nil, api.ErrTrunc)
	refuses(t, "no bytes", []byte{}, api.ErrTrunc)
	for _, b := range [][]byte{
		make([]byte, 7),
		bytes.Repeat([]byte{255}, 7),
		[]byte("1234567"),
		told([]byte("a"))[:7],
		head(0, 0)[:7],
		head(20001, 0)[:7],
		head(20000, 0)[:7],
	} {
		for length := range 8 {
			refuses(t, fmt.Sprintf("%v", b[:length]), b[:length], api.ErrTrunc)
		}
	}
}

// P5.2: eight bytes, and no body: what the length tells is looked at first, and then that it isn't there.
func TestGetOfEightBytes(t *testing.T) {
	for _, sum := range []uint32{0, 1, 0xE8B7BE43, math.MaxUint32} {
		for _, c := range []struct {
			length uint32
			want   api.Code
		}{
			{0, api.ErrForm},
			{1, api.ErrTrunc},
			{255, api.ErrTrunc},
			{256, api.ErrTrunc},
			{19999, api.ErrTrunc},
			{20000, api.ErrTrunc},
			{20001, api.ErrForm},
			{20002, api.ErrForm},
			{65535, api.ErrForm},
			{65536, api.ErrForm},
			{65537, api.ErrForm},
			{1 << 24, api.ErrForm},
			{1<<24 + 1, api.ErrForm},
			{math.MaxInt32, api.ErrForm},
			{1 << 31, api.ErrForm},
			{1<<31 + 1, api.ErrForm},
			{math.MaxUint32 - 8, api.ErrForm},
			{math.MaxUint32 - 7, api.ErrForm},
			{math.MaxUint32 - 6, api.ErrForm},
			{math.MaxUint32, api.ErrForm},
		} {
			refuses(t, fmt.Sprintf("a length of %d", c.length), head(c.length, sum), c.want)
		}
	}
}

// P5.2: a length of 0 is malformed, though 0 is just the sum of no bytes.
func TestGetOfALengthOfNone(t *testing.T) {
	refuses(t, "none, and no more", head(0, 0), api.ErrForm)
	refuses(t, "none, and a byte", append(head(0, 0), 'a'), api.ErrForm)
	refuses(t, "none, and a frame", append(head(0, 0), told([]byte("abc"))...), api.ErrForm)
	refuses(t, "none, with a sum", append(head(0, 0xE8B7BE43), 'a'), api.ErrForm)
}

// P5.2: a length above the most is malformed, though all bytes are there and their sum is told.
func TestGetOfALengthAboveTheMost(t *testing.T) {
	for _, length := range []int{20001, 20002, 30000, 65536, 65537} {
		b := told(bodyOf(length))
		refuses(t, fmt.Sprintf("%d bytes", length), b, api.ErrForm)
		refuses(t, fmt.Sprintf("%d bytes, cut off", length), b[:len(b)-1], api.ErrForm)
		refuses(t, fmt.Sprintf("%d bytes, cut off at 20008", length), b[:20008], api.ErrForm)
		b[4]++
		refuses(t, fmt.Sprintf("%d bytes, with another sum", length), b, api.ErrForm)
	}
}

// P5.2
func TestGetOfTheMost(t *testing.T) {
	body := bodyOf(20000)
	b := told(body)
	gets(t, "20000 bytes", b, body)
	refuses(t, "20000 bytes, cut off", b[:len(b)-1], api.ErrTrunc)
	b[4]++
	refuses(t, "20000 bytes, with another sum", b, api.ErrSum)
	refuses(t, "20000 bytes, with another sum, cut off", b[:len(b)-1], api.ErrTrunc)
}

// P5.2
func TestGetAsTold(t *testing.T) {
	for _, body := range bodies() {
		gets(t, "a frame", told(body), body)
	}
}

// P5.2: a wrong sum isn't told where the frame is cut off.
func TestGetOfAWrongSumCutOff(t *testing.T) {
	b := told([]byte("123456789"))
	b[4] ^= 1
	refuses(t, "a wrong sum", b, api.ErrSum)
	for end := 8; end < len(b); end++ {
		refuses(t, fmt.Sprintf("a wrong sum, cut off at %d", end), b[:end], api.ErrTrunc)
	}
}

// P5.2: what is behind a frame is no matter.
func TestGetOfAFrameWithBytesBehind(t *testing.T) {
	for _, body := range bodies() {
		for _, behind := range [][]byte{{0}, {7}, {255}, make([]byte, 9), told([]byte("next")), bytes.Repeat([]byte{255}, 30000)} {
			gets(t, fmt.Sprintf("with %d behind", len(behind)), append(told(body), behind...), body)
		}
	}
}

// P5.2: frames, one behind the other, are each where the one ahead ends.
func TestGetFrameBehindFrame(t *testing.T) {
	var log []byte
	for _, body := range bodies() {
		log = append(log, put(t, body)...)
	}
	for i, body := range bodies() {
		gets(t, fmt.Sprintf("frame %d", i), log, body)
		_, n, _ := frame.Get(log)
		log = log[n:]
	}
	refuses(t, "behind the last one", log, api.ErrTrunc)
}

// P5.2: room behind the bytes is none of them.
func TestGetReadsNoRoomBehind(t *testing.T) {
	b := told([]byte("123456789"))
	for end := range b {
		refuses(t, fmt.Sprintf("cut off at %d, with room", end), b[:end], api.ErrTrunc)
		refuses(t, fmt.Sprintf("cut off at %d, with none", end), bytes.Clone(b[:end]), api.ErrTrunc)
	}
}

// P5.2
func TestGetWithEachByteOfTheSumChanged(t *testing.T) {
	for _, body := range bodies()[:30] {
		b := told(body)
		for i := 4; i < 8; i++ {
			for x := 1; x < 256; x++ {
				b[i] ^= byte(x)
				refuses(t, fmt.Sprintf("byte %d xored with %d", i, x), b, api.ErrSum)
				b[i] ^= byte(x)
			}
		}
	}
}

// P5.2: the order of a sum's bytes counts.
func TestGetWithASumTurned(t *testing.T) {
	b := told([]byte("123456789"))
	b[4], b[5], b[6], b[7] = b[7], b[6], b[5], b[4]
	refuses(t, "a sum with its highest byte first", b, api.ErrSum)
	b = told([]byte("123456789"))
	b[4], b[5], b[6], b[7] = ^b[4], ^b[5], ^b[6], ^b[7]
	refuses(t, "a sum with its bits turned", b, api.ErrSum)
}

// lengthChanged is what a frame tells whose length is told otherwise, and whose sums aren't the same by chance.
func lengthChanged(length uint32, there int) api.Code {
	switch {
	case length == 0 || length > 20000:
		return api.ErrForm
	case int(length) > there:
		return api.ErrTrunc
	}
	return api.ErrSum
}

// P5.2
func TestGetWithEachByteOfTheLengthChanged(t *testing.T) {
	for _, length := range []int{1, 2, 9, 255, 256, 300} {
		b := told(bodyOf(length))
		for i := range 4 {
			for x := 1; x < 256; x++ {
				b[i] ^= byte(x)
				want := lengthChanged(binary.LittleEndian.Uint32(b), length)
				refuses(t, fmt.Sprintf("%d bytes, told as %v", length, b[:4]), b, want)
				b[i] ^= byte(x)
			}
		}
	}
}

// P5.2: a length that is greater or less than the body is, with bytes behind and without.
func TestGetOfAnotherLength(t *testing.T) {
	body := []byte("123456789")
	b := told(body)
	behind := append(told(body), bodyOf(11)...)
	for length := range uint32(30) {
		copy(b, head(length, 0)[:4])
		copy(behind, head(length, 0)[:4])
		if length == 9 {
			gets(t, "its own length", b, body)
			gets(t, "its own length, with bytes behind", behind, body)
			continue
		}
		refuses(t, fmt.Sprintf("a length of %d", length), b, lengthChanged(length, 9))
		refuses(t, fmt.Sprintf("a length of %d, with bytes behind", length), behind, lengthChanged(length, 20))
	}
}

// P5.3
func TestPutTellsNewMemory(t *testing.T) {
	for _, length := range []int{1, 9, 300, api.MaxFrame} {
		memory := append(bodyOf(length), bytes.Repeat([]byte{'.'}, 64)...)
		was := bytes.Clone(memory)
		body := memory[:length]
		first, second := put(t, body), put(t, body)
		if !bytes.Equal(memory, was) {
			t.Errorf("%d bytes: Put changes its body, or what is behind it", length)
		}
		for i := range first {
			first[i] ^= 255
		}
		first = append(first, "more"...)
		if !bytes.Equal(memory, was) || !bytes.Equal(second, told(body)) {
			t.Errorf("%d bytes: a change of a frame is seen elsewhere", length)
		}
		for i := range memory {
			memory[i] ^= 255
		}
		if !bytes.Equal(second, told(was[:length])) {
			t.Errorf("%d bytes: a change of the body is seen in the frame", length)
		}
	}
}

// P5.3
func TestGetTellsNewMemory(t *testing.T) {
	for _, length := range []int{1, 9, 300, api.MaxFrame} {
		body := bodyOf(length)
		b := append(told(body), told([]byte("next"))...)
		was := bytes.Clone(b)
		first, _, _ := frame.Get(b)
		second, _, _ := frame.Get(b)
		if !bytes.Equal(b, was) {
			t.Errorf("%d bytes: Get changes what it is given", length)
		}
		for i := range first {
			first[i] ^= 255
		}
		first = append(first, "more"...)
		if !bytes.Equal(b, was) || !bytes.Equal(second, body) {
			t.Errorf("%d bytes: a change of what was got is seen elsewhere", length)
		}
		for i := range b {
			b[i] ^= 255
		}
		if !bytes.Equal(second, body) {
			t.Errorf("%d bytes: a change of the frame is seen in what was got", length)
		}
	}
}

// P5.3, R2: also what is refused stays as it is.
func TestGetLeavesWhatItRefuses(t *testing.T) {
	wrong := told([]byte("123456789"))
	wrong[5]++
	for _, b := range [][]byte{{1, 2, 3}, head(0, 7), head(20001, 7), head(9, 7), wrong} {
		was := bytes.Clone(b)
		frame.Get(b)
		if !bytes.Equal(b, was) {
			t.Errorf("%v became %v", was, b)
		}
	}
}

// P5.3: nothing is kept from call to call.
func TestNothingIsKept(t *testing.T) {
	for range 2 {
		for _, body := range bodies() {
			b := put(t, body)
			frame.Put(nil)
			frame.Get([]byte("what is no frame"))
			if !bytes.Equal(b, told(body)) {
				t.Errorf("the frame of %d bytes became another", len(body))
			}
			gets(t, "a frame", b, body)
		}
	}
}

// P5.4
func TestWhatWasPutIsGot(t *testing.T) {
	for _, body := range bodies() {
		gets(t, "what was put", put(t, body), body)
	}
	for length := 1; length <= api.MaxFrame; length += 37 {
		body := bodyOf(length)
		gets(t, "what was put", put(t, body), body)
	}
}

// P5.4
func TestNoBeginningIsAFrame(t *testing.T) {
	for _, body := range bodies() {
		b := put(t, body)
		for end := range b {
			refuses(t, fmt.Sprintf("%d bytes of %d", end, len(b)), b[:end], api.ErrTrunc)
		}
	}
}

// P5.4
func TestNoFrameWithAByteOfTheBodyChanged(t *testing.T) {
	for _, body := range bodies()[:30] {
		b := put(t, body)
		for i := 8; i < len(b); i++ {
			for x := 1; x < 256; x++ {
				b[i] ^= byte(x)
				refuses(t, fmt.Sprintf("byte %d of %d xored with %d", i, len(b), x), b, api.ErrSum)
				b[i] ^= byte(x)
			}
		}
	}
}

// P5.4
func TestNoLongFrameWithAByteOfTheBodyChanged(t *testing.T) {
	b := put(t, bodyOf(api.MaxFrame))
	for i := 8; i < len(b); i++ {
		if i > 16 && i < len(b)-8 && i%101 != 0 {
			continue
		}
		for _, x := range []byte{1, 128, 255} {
			b[i] ^= x
			refuses(t, fmt.Sprintf("byte %d xored with %d", i, x), b, api.ErrSum)
			b[i] ^= x
		}
	}
}

// model is what Get must tell of any bytes, by the library alone.
func model(b []byte) ([]byte, int, api.Code) {
	if len(b) < 8 {
		return nil, 0, api.ErrTrunc
	}
	length, sum := binary.LittleEndian.Uint32(b), binary.LittleEndian.Uint32(b[4:])
	if length < 1 || length > 20000 {
		return nil, 0, api.ErrForm
	}
	if uint64(len(b)) < 8+uint64(length) {
		return nil, 0, api.ErrTrunc
	}
	body := b[8 : 8+length]
	if crc32.ChecksumIEEE(body) != sum {
		return nil, 0, api.ErrSum
	}
	return body, 8 + int(length), 0
}

// P5.2, P1: of any bytes, and of frames with any of their bytes changed, cut off or with others behind.
func TestGetAsTheModel(t *testing.T) {
	random := rand.New(rand.NewSource(2))
	var seen [16]int
	for range 20000 {
		body := make([]byte, 1+random.Intn(30))
		random.Read(body)
		b := told(body)
		switch random.Intn(5) {
		case 0:
			b = b[:random.Intn(len(b)+1)]
		case 1:
			b[random.Intn(len(b))] = byte(random.Intn(256))
		case 2:
			copy(b, head(uint32(random.Intn(40)), 0)[:4])
		case 3:
			random.Read(b)
		}
		for range random.Intn(3) {
			b = append(b, byte(random.Intn(256)))
		}
		got, n, err := frame.Get(b)
		want, wantN, code := model(b)
		if !bytes.Equal(got, want) || n != wantN || itself(err) != code {
			t.Fatalf("Get(%v) is %v, %d, %v, not %v, %d, %v", b, got, n, err, want, wantN, code)
		}
		seen[code]++
	}
	for _, code := range []api.Code{0, api.ErrForm, api.ErrTrunc, api.ErrSum} {
		if seen[code] < 100 {
			t.Errorf("%v was told %d times only", code, seen[code])
		}
	}
}
