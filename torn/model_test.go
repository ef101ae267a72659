package torn_test

import (
	"bytes"
	"encoding/binary"
	"hash/crc32"
	"math"
	"slices"
	"testing"

	"hassock/api"
	"hassock/torn"
)

// text is a text's bytes, by the library.
func text(s string) []byte {
	return append(binary.LittleEndian.AppendUint16(nil, uint16(len(s))), s...)
}

// told are records' bytes as chapter 6 tells them, by the library alone, whether they may be or not.
func told(l ...api.Record) []byte {
	order := binary.LittleEndian
	var b []byte
	for _, r := range l {
		b = append(b, byte(r.Kind), byte(r.Bucket))
		b = order.AppendUint32(b, r.Gen)
		switch r.Kind {
		case 1:
			b = order.AppendUint64(b, uint64(r.Quota.Keys))
			b = order.AppendUint64(b, uint64(r.Quota.Bytes))
			b = order.AppendUint64(b, uint64(r.Quota.Budget))
			b = order.AppendUint64(b, r.Seq)
			b = order.AppendUint32(b, r.Serial)
		case 3:
			b = order.AppendUint64(b, r.Version)
			b = order.AppendUint64(b, r.Expiry)
			b = append(b, text(r.Key)...)
			b = append(b, text(r.Val)...)
		case 4:
			b = order.AppendUint64(b, r.Version)
			b = append(b, text(r.Key)...)
		case 5:
			b = order.AppendUint32(b, r.Serial)
			b = append(b, byte(r.Rights))
			b = order.AppendUint64(b, r.Secret)
		case 6:
			b = order.AppendUint32(b, r.Serial)
		}
	}
	return b
}

// head is a frame's first eight bytes, as the library has such numbers.
func head(length, sum uint32) []byte {
	return binary.LittleEndian.AppendUint32(binary.LittleEndian.AppendUint32(nil, length), sum)
}

// framed is a frame of a body as chapter 5 tells it, by the library alone, whether it may be one or not.
func framed(body []byte) []byte {
	return append(head(uint32(len(body)), crc32.ChecksumIEEE(body)), body...)
}

// logOf are frames of records, one behind the other.
func logOf(lists ...[]api.Record) []byte {
	var b []byte
	for _, l := range lists {
		b = append(b, framed(told(l...))...)
	}
	return b
}

// piecesOf are what must be told of them.
func piecesOf(lists ...[]api.Record) []torn.Piece {
	var pieces []torn.Piece
	at := 0
	for _, l := range lists {
		length := 8 + len(told(l...))
		pieces = append(pieces, torn.Piece{At: at, Len: length, L: l})
		at += length
	}
	return pieces
}

// samePieces tells whether two lists are of the same pieces.
func samePieces(a, b []torn.Piece) bool {
	return slices.EqualFunc(a, b, func(p, q torn.Piece) bool {
		return p.At == q.At && p.Len == q.Len && slices.Equal(p.L, q.L)
	})
}

// model is what Scan must tell of any bytes, written apart from it.
func model(b []byte) ([]torn.Piece, int) {
	var pieces []torn.Piece
	at := 0
	for len(b)-at >= 8 {
		length, sum := binary.LittleEndian.Uint32(b[at:]), binary.LittleEndian.Uint32(b[at+4:])
		if length < 1 || length > 20000 || int(length) > len(b)-at-8 {
			break
		}
		body := b[at+8 : at+8+int(length)]
		l, is := modelRecords(body)
		if !is || crc32.ChecksumIEEE(body) != sum {
			break
		}
		pieces = append(pieces, torn.Piece{At: at, Len: 8 + int(length), L: l})
		at += 8 + int(length)
	}
	return pieces, at
}

// modelRecords are a body's records; false: it isn't records.
func modelRecords(b []byte) ([]api.Record, bool) {
	var l []api.Record
	for len(b) > 0 {
		r, size := modelRecord(b)
		if size == 0 {
			return nil, false
		}
		l = append(l, r)
		b = b[size:]
	}
	return l, len(l) > 0
}

// modelRecord is the record at the front, and how many bytes it has; 0, if there is none.
func modelRecord(b []byte) (api.Record, int) {
	sizes := [...]int{0, 42, 6, 26, 16, 19, 10, 6} // of a put and of a deletion with texts of no bytes
	if b[0] < 1 || b[0] > 7 || len(b) < sizes[b[0]] {
		return api.Record{}, 0
	}
	order := binary.LittleEndian
	r := api.Record{Kind: int(b[0]), Bucket: int(b[1]), Gen: order.Uint32(b[2:])}
	if r.Bucket > 63 || r.Gen == 0 {
		return api.Record{}, 0
	}
	size := sizes[b[0]]
	switch r.Kind {
	case 1:
		for i, n := range []*int64{&r.Quota.Keys, &r.Quota.Bytes, &r.Quota.Budget} {
			three := order.Uint64(b[6+8*i:])
			if three > 1<<40 {
				return api.Record{}, 0
			}
			*n = int64(three)
		}
		r.Seq, r.Serial = order.Uint64(b[30:]), order.Uint32(b[38:])
	case 3, 4:
		return modelTexts(b, r)
	case 5:
		r.Serial, r.Rights, r.Secret = order.Uint32(b[6:]), int(b[10]), order.Uint64(b[11:])
		if r.Rights < 1 || r.Rights > 7 {
			return api.Record{}, 0
		}
	case 6:
		r.Serial = order.Uint32(b[6:])
	}
	return r, size
}

// modelTexts goes on with a put or a deletion.
func modelTexts(b []byte, r api.Record) (api.Record, int) {
	order := binary.LittleEndian
	r.Version = order.Uint64(b[6:])
	at := 14
	if r.Kind == 3 {
		r.Expiry = order.Uint64(b[14:])
		at = 22
	}
	length := int(order.Uint16(b[at:]))
	at += 2
	if length < 1 || length > 64 || len(b) < at+length {
		return api.Record{}, 0
	}
	r.Key = string(b[at : at+length])
	at += length
	if r.Kind == 4 {
		return r, at
	}
	if len(b) < at+2 {
		return api.Record{}, 0
	}
	length = int(order.Uint16(b[at:]))
	at += 2
	if length > 1000 || len(b) < at+length {
		return api.Record{}, 0
	}
	r.Val = string(b[at : at+length])
	return r, at + length
}

// textOf is a text of so many bytes, no two near ones of which are the same.
func textOf(length int) string {
	b := make([]byte, length)
	for i := range b {
		b[i] = byte(i*7 + i/256 + 1)
	}
	return string(b)
}

// each are records of all kinds, with their least, with something else in each byte, and with their greatest.
func each() []api.Record {
	return []api.Record{
		{Kind: api.RBucket, Gen: 1},
		{Kind: api.RDrop, Gen: 1},
		{Kind: api.RPut, Gen: 1, Key: "k"},
		{Kind: api.RDel, Gen: 1, Key: "k"},
		{Kind: api.RToken, Gen: 1, Rights: 1},
		{Kind: api.RRevoke, Gen: 1},
		{Kind: api.RGen, Gen: 1},
		{Kind: api.RBucket, Bucket: 41, Gen: 0x04030201, Quota: api.Quota{Keys: 0x0908070605, Bytes: 0x0E0D0C0B0A, Budget: 0x13121110F0}, Seq: 0x1B1A191817161514, Serial: 0x1F1E1D1C},
		{Kind: api.RDrop, Bucket: 42, Gen: 0x08070605},
		{Kind: api.RPut, Bucket: 43, Gen: 0x0C0B0A09, Key: "key", Val: "value", Version: 0x2F2E2D2C2B2A2928, Expiry: 0x3736353433323130},
		{Kind: api.RDel, Bucket: 44, Gen: 0x100F0E0D, Key: "other", Version: 0x3F3E3D3C3B3A3938},
		{Kind: api.RToken, Bucket: 45, Gen: 0x14131211, Serial: 0x43424140, Rights: 6, Secret: 0x4B4A494847464544},
		{Kind: api.RRevoke, Bucket: 46, Gen: 0x18171615, Serial: 0x4F4E4D4C},
		{Kind: api.RGen, Bucket: 47, Gen: 0x1C1B1A19},
		{Kind: api.RBucket, Bucket: 63, Gen: math.MaxUint32, Quota: api.Quota{Keys: 1 << 40, Bytes: 1 << 40, Budget: 1 << 40}, Seq: math.MaxUint64, Serial: math.MaxUint32},
		{Kind: api.RDrop, Bucket: 63, Gen: math.MaxUint32},
		{Kind: api.RPut, Bucket: 63, Gen: math.MaxUint32, Key: textOf(64), Val: textOf(1000), Version: math.MaxUint64, Expiry: math.MaxUint64},
		{Kind: api.RDel, Bucket: 63, Gen: math.MaxUint32, Key: textOf(64), Version: math.MaxUint64},
		{Kind: api.RToken, Bucket: 63, Gen: math.MaxUint32, Serial: math.MaxUint32, Rights: 7, Secret: math.MaxUint64},
		{Kind: api.RRevoke, Bucket: 63, Gen: math.MaxUint32, Serial: math.MaxUint32},
		{Kind: api.RGen, Bucket: 63, Gen: math.MaxUint32},
	}
}

// ofBytes are records whose body has just so many bytes, of 27 or more.
func ofBytes(length int) []api.Record {
	var l []api.Record
	for length > 0 {
		size := min(length, 1090)
		if rest := length - size; rest > 0 && rest < 27 {
			size -= 27
		}
		key := min(size-26, 64)
		l = append(l, api.Record{Kind: api.RPut, Bucket: len(l), Gen: 1, Key: textOf(key), Val: textOf(size - 26 - key)})
		length -= size
	}
	return l
}

// lists are many, of one record and of many.
func lists() [][]api.Record {
	var all [][]api.Record
	for _, r := range each() {
		all = append(all, []api.Record{r})
	}
	for count := 2; count <= len(each()); count += 3 {
		all = append(all, each()[:count], each()[len(each())-count:])
	}
	for _, length := range []int{27, 255, 256, 257, 511, 512, 4096, 19999, api.MaxFrame} {
		all = append(all, ofBytes(length))
	}
	return all
}

// A model that agrees with what is told, so that what is held against it stands on its own.
func TestTheModelReadsWhatIsTold(t *testing.T) {
	b := logOf(lists()...)
	pieces, end := model(b)
	if !samePieces(pieces, piecesOf(lists()...)) || end != len(b) {
		t.Errorf("%d bytes of %d, %d pieces", end, len(b), len(pieces))
	}
	for length := 27; length <= api.MaxFrame; length += 13 {
		if b := told(ofBytes(length)...); len(b) != length {
			t.Errorf("%d bytes, not %d", len(b), length)
		}
	}
	if !bytes.Equal(framed([]byte("a")), []byte("\x01\x00\x00\x00\x43\xbe\xb7\xe8a")) {
		t.Error(framed([]byte("a")))
	}
}
