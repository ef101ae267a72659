package command_test

import (
	"bytes"
	"fmt"
	"math"
	"math/rand"
	"slices"
	"strings"
	"testing"

	"hassock/api"
	"hassock/command"
)

// fullResponse is one of Code 0 with something else in each byte.
func fullResponse() command.Response {
	return command.Response{
		Token: fullToken, Version: 0x0807060504030201, Val: "value",
		Page: []command.Pair{{Key: "k1", Val: "v1"}, {Key: "key", Val: ""}, {Key: "", Val: "val"}}, More: true,
		Keys: 0x1817161514131211, Bytes: 0x2827262524232221, Charged: 0x3837363534333231, Seq: 0x4847464544434241,
		Buckets: []int{3, 63, 5},
	}
}

// pairs are so many, no two of which are the same.
func pairs(many int) []command.Pair {
	var l []command.Pair
	for i := range many {
		l = append(l, command.Pair{Key: fmt.Sprint("k", i), Val: fmt.Sprint("v", i*i)})
	}
	return l
}

// numbersTo are 0, 1 and so on, so many.
func numbersTo(many int) []int {
	var l []int
	for i := range many {
		l = append(l, i)
	}
	return l
}

// responses are many, of all codes.
func responses() []command.Response {
	l := []command.Response{{}, fullResponse()}
	for code := 1; code <= 15; code++ {
		l = append(l, command.Response{Code: code})
	}
	for _, many := range []int{0, 1, 2, 49, 50, 51, 64, 127, 128, 254, 255} {
		r := fullResponse()
		r.Page = pairs(many)
		l = append(l, r)
		r = fullResponse()
		r.Buckets = numbersTo(many)
		l = append(l, r)
	}
	for _, length := range []int{0, 1, 255, 256, 257, 999, 1000, 1001, 65535} {
		r := fullResponse()
		r.Val = textOf(length)
		l = append(l, r)
		r.Page = []command.Pair{{Key: textOf(length), Val: "v"}, {Key: "k", Val: textOf(length)}}
		l = append(l, r)
	}
	for _, n := range []int64{math.MinInt64, -1, 1, 255, 256, 1 << 40, 1<<40 + 1, math.MaxInt64} {
		l = append(l, command.Response{Keys: n}, command.Response{Bytes: n}, command.Response{Charged: n},
			command.Response{Seq: uint64(n)}, command.Response{Version: uint64(n)}, command.Response{Token: api.Token{Secret: uint64(n)}})
	}
	return l
}

// decodes tells of bytes that they must be just this response's.
func decodes(t *testing.T, what string, b []byte, want command.Response) {
	t.Helper()
	if r, err := command.Decode(b); err != nil || !isSameResponse(r, want) {
		t.Errorf("%s: Decode is %+v and %v, not %+v", what, r, err, want)
	}
}

// noResponse tells of bytes that they must be no response's, with nothing told beside the code.
func noResponse(t *testing.T, what string, b []byte) {
	t.Helper()
	if r, err := command.Decode(b); itself(err) != api.ErrForm || !isSameResponse(r, command.Response{}) {
		t.Errorf("%s: Decode is %+v and %v, not ErrForm", what, r, err)
	}
}

// encodes tells of a response what bytes it must have.
func encodes(t *testing.T, what string, r command.Response, want []byte) {
	t.Helper()
	if b := command.Encode(r); !bytes.Equal(b, want) {
		t.Errorf("%s: Encode is %v, not %v", what, b, want)
	}
}

// P16.2
func TestKnownResponses(t *testing.T) {
	zeros := func(many int) string { return strings.Repeat("\x00", many) }
	for b, r := range map[string]command.Response{
		zeros(1 + 17 + 8 + 2 + 1 + 1 + 32 + 1):                                 {},
		zeros(1+17) + "\x05" + zeros(7+2+1+1+32+1):                             {Version: 5},
		zeros(1+17+8) + "\x02\x00xy" + zeros(1+1+32+1):                         {Val: "xy"},
		zeros(1+17+8+2) + "\x01\x01\x00k\x02\x00vw" + zeros(1+32+1):            {Page: []command.Pair{{Key: "k", Val: "vw"}}},
		zeros(1+17+8+2+1) + "\x01" + zeros(32+1):                               {More: true},
		zeros(1+17+8+2+1+1) + "\x01\x01" + zeros(6+24+1):                       {Keys: 257},
		zeros(1+17+8+2+1+1+8) + "\x02" + zeros(7+16+1):                         {Bytes: 2},
		zeros(1+17+8+2+1+1+16) + "\xff\xff\xff\xff\xff\xff\xff\xff" + zeros(9): {Charged: -1},
		zeros(1+17+8+2+1+1+24) + "\x04" + zeros(7+1):                           {Seq: 4},
		zeros(1+17+8+2+1+1+32) + "\x02\x3f\x00":                                {Buckets: []int{63, 0}},
		zeros(1) + knownToken + zeros(8+2+1+1+32+1):                            {Token: api.Token{Bucket: 9, Gen: 2, Serial: 3, Secret: 1<<63 + 4}},
		"\x01": {Code: 1},
		"\x07": command.Denied(),
		"\x0f": {Code: 15},
	} {
		encodes(t, fmt.Sprintf("%+v", r), r, []byte(b))
		decodes(t, fmt.Sprintf("%q", b), []byte(b), r)
	}
}

// P16.2
func TestDenied(t *testing.T) {
	if r := command.Denied(); !isSameResponse(r, command.Response{Code: 7}) {
		t.Errorf("Denied is %+v", r)
	}
	if command.Denied().Code != int(api.ErrDenied) {
		t.Errorf("Denied has Code %d", command.Denied().Code)
	}
}

// P16.2
func TestResponsesAreDecodedAsEncoded(t *testing.T) {
	for _, r := range responses() {
		encodes(t, fmt.Sprintf("%.200q", fmt.Sprint(r)), r, toldResponse(r))
		decodes(t, fmt.Sprintf("%.200q", fmt.Sprint(r)), toldResponse(r), r)
	}
}

// P16.2: of another Code than 0 it is told alone.
func TestEncodeOfAnotherCode(t *testing.T) {
	for _, code := range []int{math.MinInt, -257, -256, -255, -2, -1, 1, 2, 7, 14, 15, 16, 17, 127, 128, 255, 256, 257, 512, 1 << 32, math.MaxInt} {
		r := fullResponse()
		r.Code = code
		encodes(t, fmt.Sprint("Code ", code), r, []byte{byte(code)})
		encodes(t, fmt.Sprint("Code ", code, " alone"), command.Response{Code: code}, []byte{byte(code)})
	}
}

// P16.2: numbers are cut off to their bytes, a text to the most that one has.
func TestEncodeCutsOff(t *testing.T) {
	for _, n := range []int{math.MinInt, -257, -256, -255, -1, 64, 255, 256, 257, 300, 1 << 32, math.MaxInt} {
		r := fullResponse()
		r.Token.Bucket = n
		r.Buckets = []int{1, n, 2}
		encodes(t, fmt.Sprint("buckets ", n), r, toldResponse(r))
		cut := r
		cut.Token.Bucket, cut.Buckets = n&255, []int{1, n & 255, 2}
		decodes(t, fmt.Sprint("buckets ", n), command.Encode(r), cut)
	}
	for _, many := range []int{256, 257, 300, 512, 513} {
		r := fullResponse()
		r.Page = pairs(many)
		encodes(t, fmt.Sprint(many, " pairs"), r, toldResponse(r))
		r = fullResponse()
		r.Buckets = numbersTo(many)
		encodes(t, fmt.Sprint(many, " buckets"), r, toldResponse(r))
		noResponse(t, fmt.Sprint(many, " buckets"), command.Encode(r))
	}
	for _, length := range []int{65536, 65537, 70000, 131072} {
		r, cut := fullResponse(), fullResponse()
		r.Val, cut.Val = textOf(length), textOf(length)[:65535]
		r.Page = []command.Pair{{Key: textOf(length), Val: textOf(length)}}
		cut.Page = []command.Pair{{Key: cut.Val, Val: cut.Val}}
		encodes(t, fmt.Sprint("texts of ", length), r, toldResponse(cut))
	}
}

// P16.2
func TestDecodeOfNoCode(t *testing.T) {
	noResponse(t, "nil", nil)
	noResponse(t, "no bytes", []byte{})
	for n := range 256 {
		b := toldResponse(fullResponse())
		b[0] = byte(n)
		if n != 0 {
			noResponse(t, fmt.Sprintf("Code %d, and more", n), b)
			noResponse(t, fmt.Sprintf("Code %d, and a byte", n), []byte{byte(n), 0})
		}
		switch {
		case n == 0 || n > 15:
			noResponse(t, fmt.Sprint("Code ", n), []byte{byte(n)})
		default:
			decodes(t, fmt.Sprint("Code ", n), []byte{byte(n)}, command.Response{Code: n})
		}
	}
}

// P16.2: a response that is cut off anywhere is none, nor is one with bytes behind it.
func TestDecodeToTheEnd(t *testing.T) {
	for _, r := range []command.Response{{}, fullResponse()} {
		b := toldResponse(r)
		for end := range b {
			noResponse(t, fmt.Sprint("cut at ", end), b[:end])
		}
		for _, more := range []string{"\x00", "\x01", "\xff", "\x00\x00", string(b)} {
			noResponse(t, fmt.Sprintf("and %q", more), append(slices.Clone(b), more...))
		}
	}
}

// P16.2
func TestDecodeOfMore(t *testing.T) {
	for _, r := range []command.Response{{}, fullResponse()} {
		b := toldResponse(r)
		at := len(b) - len(r.Buckets) - 1 - 32 - 1
		for n := 2; n < 256; n++ {
			b[at] = byte(n)
			noResponse(t, fmt.Sprint("More of ", n), b)
		}
		for n, more := range []bool{false, true} {
			b[at], r.More = byte(n), more
			decodes(t, fmt.Sprint("More of ", n), b, r)
		}
	}
}

// P16.2: how many pairs and buckets there are isn't less, nor more, than is told.
func TestDecodeOfOtherCounts(t *testing.T) {
	r := command.Response{Page: pairs(4), Buckets: []int{255, 254, 253}}
	for n := range 256 {
		b := toldResponse(r)
		if b[len(b)-4] = byte(n); n != 3 {
			noResponse(t, fmt.Sprint("three buckets that are told to be ", n), b)
		}
		b = toldResponse(r)
		if b[28] = byte(n); n != 4 {
			noResponse(t, fmt.Sprint("four pairs that are told to be ", n), b)
		}
	}
}

// agreesResponse tells of any bytes that Decode tells what the model tells, and that what is decoded is encoded as those bytes.
func agreesResponse(t *testing.T, b []byte) bool {
	t.Helper()
	want, is := modelResponse(b)
	if !is {
		noResponse(t, fmt.Sprintf("%q", b), b)
		return false
	}
	decodes(t, fmt.Sprintf("%q", b), b, want)
	encodes(t, fmt.Sprintf("%q", b), want, b)
	return true
}

// P16.2: every other value at every byte is what the model tells.
func TestDecodeOfEachByteChanged(t *testing.T) {
	for _, r := range []command.Response{{}, fullResponse()} {
		b := toldResponse(r)
		for i := range b {
			for n := range 256 {
				x := slices.Clone(b)
				x[i] = byte(n)
				agreesResponse(t, x)
			}
		}
	}
}

// P16.2, P1
func TestDecodeOfChangedResponses(t *testing.T) {
	random := rand.New(rand.NewSource(19))
	var l [][]byte
	for _, r := range responses() {
		if b := toldResponse(r); len(b) < 1000 {
			l = append(l, b)
		}
	}
	good := 0
	for range 100000 {
		if agreesResponse(t, changed(random, l[random.Intn(len(l))])) {
			good++
		}
	}
	if good < 1000 {
		t.Errorf("only %d were responses", good)
	}
}

// P16.2, P1: of any bytes.
func TestDecodeOfAnyBytes(t *testing.T) {
	random := rand.New(rand.NewSource(20))
	for range 50000 {
		b := make([]byte, random.Intn(90))
		for i := range b {
			b[i] = []byte{0, 0, 0, 1, byte(random.Intn(256))}[random.Intn(5)]
		}
		if len(b) > 0 && random.Intn(4) > 0 {
			b[0] = 0
		}
		agreesResponse(t, b)
	}
	noResponse(t, "very many zeros", make([]byte, 1<<20))
	noResponse(t, "very many bytes", append([]byte{0}, bytes.Repeat([]byte{255}, 1<<20)...))
}

// P16.3: what is decoded stays as it is, whatever becomes of the bytes.
func TestDecodedIsNewMemory(t *testing.T) {
	b := toldResponse(fullResponse())
	first, err := command.Decode(b)
	second, _ := command.Decode(b)
	if err != nil || !bytes.Equal(b, toldResponse(fullResponse())) {
		t.Errorf("Decode changed its bytes (%v)", err)
	}
	for i := range b {
		b[i] = 255
	}
	if !isSameResponse(first, fullResponse()) {
		t.Errorf("it became %+v", first)
	}
	first.Page[0], first.Buckets[0] = command.Pair{}, 99
	_, _ = append(first.Page, command.Pair{}), append(first.Buckets, 99)
	if !isSameResponse(second, fullResponse()) {
		t.Errorf("the other one became %+v", second)
	}
}

// P16.3: what is encoded stays as it is, and so does the response.
func TestEncodedIsNewMemory(t *testing.T) {
	r := fullResponse()
	first, second := command.Encode(r), command.Encode(r)
	if !isSameResponse(r, fullResponse()) {
		t.Errorf("Encode made it %+v", r)
	}
	for i := range first {
		first[i] = 255
	}
	_ = append(first, 255)
	r.Page[0].Key, r.Buckets[0] = "other", 99
	if !bytes.Equal(second, toldResponse(fullResponse())) {
		t.Errorf("it became %v", second)
	}
	denied := command.Encode(command.Denied())
	denied[0] = 9
	encodes(t, "Denied again", command.Denied(), []byte{7})
}
