package record_test

import (
	"encoding/binary"
	"hash/crc32"
	"math"
	"strings"
	"testing"

	"hassock/api"
)

// itself is a code that was told itself; 0 is no error, -1 another one.
func itself(err error) api.Code {
	if err == nil {
		return 0
	}
	if code, is := err.(api.Code); is {
		return code
	}
	return -1
}

// names are the fields that each kind names, besides Bucket and Gen.
var names = map[int]string{
	api.RBucket: "Keys Bytes Budget Seq Serial",
	api.RDrop:   "",
	api.RPut:    "Key Val Version Expiry",
	api.RDel:    "Key Version",
	api.RToken:  "Serial Rights Secret",
	api.RRevoke: "Serial",
	api.RGen:    "",
}

// kindNames tell of which kind a test speaks.
var kindNames = [...]string{"none", "RBucket", "RDrop", "RPut", "RDel", "RToken", "RRevoke", "RGen"}

// namesField tells whether a kind names a field.
func namesField(kind int, field string) bool {
	for _, n := range strings.Fields(names[kind]) {
		if n == field {
			return true
		}
	}
	return false
}

// field is one that not all kinds name, and what sets it to something that it may be where it is named.
type field struct {
	name string
	sets []func(*api.Record)
}

// fields are all that not all kinds name, each set to its least and its greatest but 0.
func fields() []field {
	return []field{
		{"Keys", []func(*api.Record){func(r *api.Record) { r.Quota.Keys = 1 }, func(r *api.Record) { r.Quota.Keys = 1 << 40 }}},
		{"Bytes", []func(*api.Record){func(r *api.Record) { r.Quota.Bytes = 1 }, func(r *api.Record) { r.Quota.Bytes = 1 << 40 }}},
		{"Budget", []func(*api.Record){func(r *api.Record) { r.Quota.Budget = 1 }, func(r *api.Record) { r.Quota.Budget = 1 << 40 }}},
		{"Seq", []func(*api.Record){func(r *api.Record) { r.Seq = 1 }, func(r *api.Record) { r.Seq = math.MaxUint64 }}},
		{"Serial", []func(*api.Record){func(r *api.Record) { r.Serial = 1 }, func(r *api.Record) { r.Serial = math.MaxUint32 }}},
		{"Rights", []func(*api.Record){func(r *api.Record) { r.Rights = 1 }, func(r *api.Record) { r.Rights = 7 }}},
		{"Secret", []func(*api.Record){func(r *api.Record) { r.Secret = 1 }, func(r *api.Record) { r.Secret = math.MaxUint64 }}},
		{"Key", []func(*api.Record){func(r *api.Record) { r.Key = "k" }, func(r *api.Record) { r.Key = textOf(64) }}},
		{"Val", []func(*api.Record){func(r *api.Record) { r.Val = "v" }, func(r *api.Record) { r.Val = textOf(1000) }}},
		{"Version", []func(*api.Record){func(r *api.Record) { r.Version = 1 }, func(r *api.Record) { r.Version = math.MaxUint64 }}},
		{"Expiry", []func(*api.Record){func(r *api.Record) { r.Expiry = 1 }, func(r *api.Record) { r.Expiry = math.MaxUint64 }}},
	}
}

// least is a record of a kind with no more in it than it must have.
func least(kind int) api.Record {
	r := api.Record{Kind: kind, Gen: 1}
	if namesField(kind, "Key") {
		r.Key = "k"
	}
	if namesField(kind, "Rights") {
		r.Rights = 1
	}
	return r
}

// full is a record of a kind with something else in each byte that it names.
func full(kind int) api.Record {
	all := api.Record{
		Quota: api.Quota{Keys: 0x0908070605, Bytes: 0x0E0D0C0B0A, Budget: 0x13121110F0}, Seq: 0x1B1A191817161514, Serial: 0x1F1E1D1C,
		Rights: 6, Secret: 0x2726252423222120, Key: "key", Val: "value", Version: 0x2F2E2D2C2B2A2928, Expiry: 0x3736353433323130,
	}
	r := api.Record{Kind: kind, Bucket: 41, Gen: 0x04030201}
	for _, n := range strings.Fields(names[kind]) {
		switch n {
		case "Keys":
			r.Quota = all.Quota
		case "Seq":
			r.Seq = all.Seq
		case "Serial":
			r.Serial = all.Serial
		case "Rights":
			r.Rights = all.Rights
		case "Secret":
			r.Secret = all.Secret
		case "Key":
			r.Key = all.Key
		case "Val":
			r.Val = all.Val
		case "Version":
			r.Version = all.Version
		case "Expiry":
			r.Expiry = all.Expiry
		}
	}
	return r
}

// greatest is a record of a kind with the greatest that it may have.
func greatest(kind int) api.Record {
	r := api.Record{Kind: kind, Bucket: 63, Gen: math.MaxUint32}
	for _, f := range fields() {
		if namesField(kind, f.name) {
			f.sets[1](&r)
		}
	}
	return r
}

// textOf is a text of so many bytes, no two near ones of which are the same.
func textOf(length int) string {
	b := make([]byte, length)
	for i := range b {
		b[i] = byte(i*7 + i/256)
	}
	return string(b)
}

// texts are some of 1 to 64 bytes; each byte is at the beginning of one, at the end of one, and alone.
func texts() []string {
	var l []string
	for c := range 256 {
		one := string([]byte{byte(c)})
		l = append(l, one, one+"middle", "middle"+one, one+"middle"+one)
	}
	for length := 1; length <= 64; length++ {
		l = append(l, textOf(length))
	}
	return append(l, "\x00\x00", "\xff\xff", "\x01\x00a", "\xc3\xa9\xe2\x82\xac", strings.Repeat(" ", 64), strings.Repeat("\x00", 64))
}

// records are many that may be, of all kinds.
func records() []api.Record {
	var l []api.Record
	for kind := api.RBucket; kind <= api.RGen; kind++ {
		l = append(l, least(kind), full(kind), greatest(kind))
		for _, bucket := range []int{1, 2, 62, 63} {
			r := full(kind)
			r.Bucket = bucket
			l = append(l, r)
		}
		for _, f := range fields() {
			for _, set := range f.sets {
				if r := least(kind); namesField(kind, f.name) {
					set(&r)
					l = append(l, r)
				}
			}
		}
	}
	for _, s := range texts() {
		put, del, val := full(api.RPut), full(api.RDel), full(api.RPut)
		put.Key, del.Key, val.Val = s, s, s
		l = append(l, put, del, val)
	}
	for _, length := range []int{0, 1, 2, 255, 256, 257, 511, 512, 999, 1000} {
		r := full(api.RPut)
		r.Val = textOf(length)
		l = append(l, r)
	}
	return l
}

// text is a text's bytes, by the library.
func text(s string) []byte {
	return append(binary.LittleEndian.AppendUint16(nil, uint16(len(s))), s...)
}

// told are a record's bytes as the chapter's head tells them, by the library alone, whether it may be or not.
func told(r api.Record) []byte {
	order := binary.LittleEndian
	b := []byte{byte(r.Kind), byte(r.Bucket)}
	b = order.AppendUint32(b, r.Gen)
	switch r.Kind {
	case 1:
		b = order.AppendUint64(b, uint64(r.Quota.Keys))
		b = order.AppendUint64(b, uint64(r.Quota.Bytes))
		b = order.AppendUint64(b, uint64(r.Quota.Budget))
		b = order.AppendUint64(b, r.Seq)
		b = order.AppendUint32(b, r.Serial)
	case 3:
		b = order.AppendUint64(b, r.Version)
		b = order.AppendUint64(b, r.Expiry)
		b = append(b, text(r.Key)...)
		b = append(b, text(r.Val)...)
	case 4:
		b = order.AppendUint64(b, r.Version)
		b = append(b, text(r.Key)...)
	case 5:
		b = order.AppendUint32(b, r.Serial)
		b = append(b, byte(r.Rights))
		b = order.AppendUint64(b, r.Secret)
	case 6:
		b = order.AppendUint32(b, r.Serial)
	}
	return b
}

// toldAll are the bytes of records, one behind the other.
func toldAll(l ...api.Record) []byte {
	var b []byte
	for _, r := range l {
		b = append(b, told(r)...)
	}
	return b
}

// framed is a frame of a body, by the library alone.
func framed(body []byte) []byte {
	b := binary.LittleEndian.AppendUint32(nil, uint32(len(body)))
	b = binary.LittleEndian.AppendUint32(b, crc32.ChecksumIEEE(body))
	return append(b, body...)
}

// model is what Get must tell of any bytes, written apart from it; false: nothing.
func model(b []byte) ([]api.Record, bool) {
	var l []api.Record
	for len(b) > 0 {
		r, size := modelOne(b)
		if size == 0 || size > len(b) {
			return nil, false
		}
		l = append(l, r)
		b = b[size:]
	}
	return l, len(l) > 0
}

// modelOne is the record at the front, and how many bytes it has; 0 (or more than there are), if there is none.
func modelOne(b []byte) (api.Record, int) {
	sizes := [...]int{0, 42, 6, 26, 16, 19, 10, 6} // of a put and of a deletion with texts of no bytes
	if b[0] < 1 || b[0] > 7 || len(b) < sizes[b[0]] {
		return api.Record{}, 0
	}
	order := binary.LittleEndian
	r := api.Record{Kind: int(b[0]), Bucket: int(b[1]), Gen: order.Uint32(b[2:])}
	if r.Bucket > 63 || r.Gen == 0 {
		return api.Record{}, 0
	}
	size := sizes[b[0]]
	switch r.Kind {
	case 1:
		for i, n := range []*int64{&r.Quota.Keys, &r.Quota.Bytes, &r.Quota.Budget} {
			three := order.Uint64(b[6+8*i:])
			if three > 1<<40 {
				return api.Record{}, 0
			}
			*n = int64(three)
		}
		r.Seq, r.Serial = order.Uint64(b[30:]), order.Uint32(b[38:])
	case 3, 4:
		return modelTexts(b, r)
	case 5:
		r.Serial, r.Rights, r.Secret = order.Uint32(b[6:]), int(b[10]), order.Uint64(b[11:])
		if r.Rights < 1 || r.Rights > 7 {
			return api.Record{}, 0
		}
	case 6:
		r.Serial = order.Uint32(b[6:])
	}
	return r, size
}

// modelTexts goes on with a put or a deletion.
func modelTexts(b []byte, r api.Record) (api.Record, int) {
	order := binary.LittleEndian
	r.Version = order.Uint64(b[6:])
	at := 14
	if r.Kind == 3 {
		r.Expiry = order.Uint64(b[14:])
		at = 22
	}
	length := int(order.Uint16(b[at:]))
	at += 2
	if length < 1 || length > 64 || len(b) < at+length {
		return api.Record{}, 0
	}
	r.Key = string(b[at : at+length])
	at += length
	if r.Kind == 4 {
		return r, at
	}
	if len(b) < at+2 {
		return api.Record{}, 0
	}
	length = int(order.Uint16(b[at:]))
	at += 2
	if length > 1000 || len(b) < at+length {
		return api.Record{}, 0
	}
	r.Val = string(b[at : at+length])
	return r, at + length
}

// A model that agrees with what is told, so that what is held against it stands on its own.
func TestTheModelReadsWhatIsTold(t *testing.T) {
	for _, r := range records() {
		if l, is := model(told(r)); !is || len(l) != 1 || l[0] != r {
			t.Errorf("%+v is %+v to the model", r, l)
		}
	}
}
