package command_test

import (
	"encoding/binary"
	"math"
	"reflect"
	"strings"
	"testing"

	"hassock/api"
	"hassock/command"
)

// itself is a code that was told itself; 0 is no error, -1 another one.
func itself(err error) api.Code {
	if err == nil {
		return 0
	}
	if code, is := err.(api.Code); is {
		return code
	}
	return -1
}

// fields are the fields that each tag asks for, in the order of their bytes; of an op those that are put, behind a colon.
var fields = [...]string{
	1:  "Admin Bucket Quota",
	2:  "Admin Bucket",
	3:  "Admin Bucket Quota",
	4:  "Admin",
	5:  "Admin",
	6:  "Token one:Key,Cond,Val,TTL",
	7:  "Token one:Key",
	8:  "Token one:Key,Cond",
	9:  "Token many:",
	10: "Token After First Count",
	11: "Token",
	12: "Token Rights",
	13: "Token Serial",
}

// tagNames tell of which tag a test speaks.
var tagNames = [...]string{"none", "Create", "Drop", "Resize", "Merge", "List", "Write", "Get", "Del", "Batch", "Fold", "Stat", "Mint", "Revoke"}

// asks tells whether a tag asks for a field.
func asks(tag int, field string) bool {
	for _, f := range strings.Fields(fields[tag]) {
		if f == field || field == "Ops" && strings.Contains(f, ":") {
			return true
		}
	}
	return false
}

// textOf is a text of so many bytes, no two near ones of which are the same.
func textOf(length int) string {
	b := make([]byte, length)
	for i := range b {
		b[i] = byte(i*7 + i/256)
	}
	return string(b)
}

// fullToken has something else in each byte.
var fullToken = api.Token{Bucket: 0xB1, Gen: 0xB5B4B3B2, Serial: 0xB9B8B7B6, Secret: 0xC1C0BFBEBDBCBBBA}

// opOf is an op that a tag may have, with something else in each byte; of a Batch a deletion, if del.
func opOf(tag int, del bool) command.Op {
	op := command.Op{Key: "key", Val: "value", Cond: 0xD8D7D6D5D4D3D2D1, TTL: 0xE8E7E6E5E4E3E2E1}
	switch {
	case tag == command.Get:
		return command.Op{Key: "key"}
	case tag == command.Del || tag == command.Batch && del:
		return command.Op{Del: true, Key: "key", Cond: op.Cond}
	}
	return op
}

// least is a request with no more in it than it must have.
func least(tag int) command.Request {
	q := command.Request{Tag: tag}
	switch tag {
	case command.Write, command.Get, command.Batch:
		q.Ops = []command.Op{{Key: "k"}}
	case command.Del:
		q.Ops = []command.Op{{Del: true, Key: "k"}}
	case command.Mint:
		q.Rights = 1
	}
	return q
}

// full is a request with something else in each byte that its tag asks for.
func full(tag int) command.Request {
	q := command.Request{Tag: tag}
	if asks(tag, "Admin") {
		q.Admin = 0xA8A7A6A5A4A3A2A1
	}
	if asks(tag, "Bucket") {
		q.Bucket = 41
	}
	if asks(tag, "Quota") {
		q.Quota = api.Quota{Keys: 0x0908070605, Bytes: 0x0E0D0C0B0A, Budget: 0x13121110F0}
	}
	if asks(tag, "Token") {
		q.Token = fullToken
	}
	if tag == command.Batch {
		q.Ops = []command.Op{opOf(tag, false), opOf(tag, true), {Key: "other", Val: "", Cond: 1, TTL: 2}}
	} else if asks(tag, "Ops") {
		q.Ops = []command.Op{opOf(tag, false)}
	}
	if asks(tag, "After") {
		q.After, q.First, q.Count = "after", true, 43
	}
	if asks(tag, "Rights") {
		q.Rights = 6
	}
	if asks(tag, "Serial") {
		q.Serial = 0x27262524
	}
	return q
}

// greatest is a request with the greatest that it may have.
func greatest(tag int) command.Request {
	q := full(tag)
	if asks(tag, "Admin") {
		q.Admin = math.MaxUint64
	}
	if asks(tag, "Bucket") {
		q.Bucket = 63
	}
	if asks(tag, "Quota") {
		q.Quota = api.Quota{Keys: 1 << 40, Bytes: 1 << 40, Budget: 1 << 40}
	}
	if asks(tag, "Token") {
		q.Token = api.Token{Bucket: 255, Gen: math.MaxUint32, Serial: math.MaxUint32, Secret: math.MaxUint64}
	}
	for len(q.Ops) < 16 && tag == command.Batch {
		q.Ops = append(q.Ops, opOf(tag, false))
	}
	for i := range q.Ops {
		op := &q.Ops[i]
		op.Key = textOf(64)
		if tag != command.Get {
			op.Cond = math.MaxUint64
		}
		if tag != command.Get && !op.Del {
			op.Val, op.TTL = textOf(1000), math.MaxUint64
		}
	}
	if asks(tag, "After") {
		q.After, q.Count = textOf(64), 50
	}
	if asks(tag, "Rights") {
		q.Rights = 7
	}
	if asks(tag, "Serial") {
		q.Serial = math.MaxUint32
	}
	return q
}

// text is a text's bytes, by the library.
func text(s string) []byte {
	return append(binary.LittleEndian.AppendUint16(nil, uint16(len(s))), s...)
}

// flag is a flag's byte.
func flag(set bool) byte {
	if set {
		return 1
	}
	return 0
}

// tokenBytes are a token's bytes, by the library.
func tokenBytes(t api.Token) []byte {
	b := binary.LittleEndian.AppendUint32([]byte{byte(t.Bucket)}, t.Gen)
	b = binary.LittleEndian.AppendUint32(b, t.Serial)
	return binary.LittleEndian.AppendUint64(b, t.Secret)
}

// opBytes are an op's bytes, of the fields that are told.
func opBytes(op command.Op, told string) []byte {
	var b []byte
	for _, f := range strings.Split(told, ",") {
		switch f {
		case "Key":
			b = append(b, text(op.Key)...)
		case "Cond":
			b = binary.LittleEndian.AppendUint64(b, op.Cond)
		case "Val":
			b = append(b, text(op.Val)...)
		case "TTL":
			b = binary.LittleEndian.AppendUint64(b, op.TTL)
		}
	}
	return b
}

// batchBytes are a Batch's ops, by the library.
func batchBytes(l []command.Op) []byte {
	b := []byte{byte(len(l))}
	for _, op := range l {
		b = append(b, flag(op.Del))
		if op.Del {
			b = append(b, opBytes(op, "Key,Cond")...)
		} else {
			b = append(b, opBytes(op, "Key,Cond,Val,TTL")...)
		}
	}
	return b
}

// told are a request's bytes as the chapter's head tells them, by the library alone, whether it may be or not.
func told(q command.Request) []byte {
	order := binary.LittleEndian
	b := []byte{byte(q.Tag)}
	for _, f := range strings.Fields(fields[q.Tag]) {
		switch f {
		case "Admin":
			b = order.AppendUint64(b, q.Admin)
		case "Bucket":
			b = append(b, byte(q.Bucket))
		case "Quota":
			for _, n := range []int64{q.Quota.Keys, q.Quota.Bytes, q.Quota.Budget} {
				b = order.AppendUint64(b, uint64(n))
			}
		case "Token":
			b = append(b, tokenBytes(q.Token)...)
		case "many:":
			b = append(b, batchBytes(q.Ops)...)
		case "After":
			b = append(b, text(q.After)...)
		case "First":
			b = append(b, flag(q.First))
		case "Count":
			b = append(b, byte(q.Count))
		case "Rights":
			b = append(b, byte(q.Rights))
		case "Serial":
			b = order.AppendUint32(b, q.Serial)
		default:
			for _, op := range q.Ops {
				b = append(b, opBytes(op, strings.TrimPrefix(f, "one:"))...)
			}
		}
	}
	return b
}

// cursor takes bytes off the front; it panics with a cursor once they aren't what was asked for.
type cursor struct{ b []byte }

// take is the next so many bytes.
func (c *cursor) take(many int) []byte {
	c.must(many <= len(c.b))
	taken := c.b[:many]
	c.b = c.b[many:]
	return taken
}

// must ends the reading, unless a thing holds.
func (c *cursor) must(holds bool) {
	if !holds {
		panic(c)
	}
}

func (c *cursor) one() int      { return int(c.take(1)[0]) }
func (c *cursor) four() uint32  { return binary.LittleEndian.Uint32(c.take(4)) }
func (c *cursor) long() uint64  { return binary.LittleEndian.Uint64(c.take(8)) }
func (c *cursor) text() string  { return string(c.take(int(binary.LittleEndian.Uint16(c.take(2))))) }
func (c *cursor) signed() int64 { return int64(c.long()) }

// from0 is the next byte, which is 0 to a greatest one.
func (c *cursor) from0(most int) int {
	n := c.one()
	c.must(n <= most)
	return n
}

// part is one of a quota's three.
func (c *cursor) part() int64 {
	n := c.long()
	c.must(n <= 1<<40)
	return int64(n)
}

// token is the next token.
func (c *cursor) token() api.Token {
	return api.Token{Bucket: c.one(), Gen: c.four(), Serial: c.four(), Secret: c.long()}
}

// op is the next op, of the fields that are told.
func (c *cursor) op(del bool, told string) command.Op {
	op := command.Op{Del: del}
	for _, f := range strings.Split(told, ",") {
		switch f {
		case "Key":
			op.Key = c.text()
			c.must(op.Key != "" && len(op.Key) <= 64)
		case "Cond":
			op.Cond = c.long()
		case "Val":
			op.Val = c.text()
			c.must(len(op.Val) <= 1000)
		case "TTL":
			op.TTL = c.long()
		}
	}
	return op
}

// batch are the next ops of a Batch.
func (c *cursor) batch() []command.Op {
	many := c.from0(16)
	c.must(many > 0)
	var l []command.Op
	for range many {
		if c.from0(1) == 1 {
			l = append(l, c.op(true, "Key,Cond"))
		} else {
			l = append(l, c.op(false, "Key,Cond,Val,TTL"))
		}
	}
	return l
}

// request is the next request, to the end.
func (c *cursor) request() command.Request {
	q := command.Request{Tag: c.from0(13)}
	c.must(q.Tag > 0)
	for _, f := range strings.Fields(fields[q.Tag]) {
		switch f {
		case "Admin":
			q.Admin = c.long()
		case "Bucket":
			q.Bucket = c.from0(63)
		case "Quota":
			q.Quota = api.Quota{Keys: c.part(), Bytes: c.part(), Budget: c.part()}
		case "Token":
			q.Token = c.token()
		case "many:":
			q.Ops = c.batch()
		case "After":
			q.After = c.text()
			c.must(len(q.After) <= 64)
		case "First":
			q.First = c.from0(1) == 1
		case "Count":
			q.Count = c.from0(50)
		case "Rights":
			q.Rights = c.from0(7)
			c.must(q.Rights > 0)
		case "Serial":
			q.Serial = c.four()
		default:
			q.Ops = []command.Op{c.op(q.Tag == command.Del, strings.TrimPrefix(f, "one:"))}
		}
	}
	c.must(len(c.b) == 0)
	return q
}

// response is the next response, to the end.
func (c *cursor) response() command.Response {
	r := command.Response{Code: c.from0(15)}
	if r.Code == 0 {
		r.Token, r.Version, r.Val = c.token(), c.long(), c.text()
		for range c.one() {
			r.Page = append(r.Page, command.Pair{Key: c.text(), Val: c.text()})
		}
		r.More = c.from0(1) == 1
		r.Keys, r.Bytes, r.Charged, r.Seq = c.signed(), c.signed(), c.signed(), c.long()
		for range c.one() {
			r.Buckets = append(r.Buckets, c.one())
		}
	}
	c.must(len(c.b) == 0)
	return r
}

// model is what a reading of bytes must tell, written apart; false: nothing.
func model[T any](b []byte, reading func(*cursor) T) (told T, is bool) {
	defer func() {
		if at, ended := recover().(*cursor); at != nil && ended {
			var none T
			told, is = none, false
		}
	}()
	return reading(&cursor{b}), true
}

// modelRequest is what Parse must tell.
func modelRequest(b []byte) (command.Request, bool) { return model(b, (*cursor).request) }

// modelResponse is what Decode must tell.
func modelResponse(b []byte) (command.Response, bool) { return model(b, (*cursor).response) }

// toldResponse are a response's bytes as the chapter's head tells them, by the library alone.
func toldResponse(r command.Response) []byte {
	if r.Code != 0 {
		return []byte{byte(r.Code)}
	}
	order := binary.LittleEndian
	b := append([]byte{0}, tokenBytes(r.Token)...)
	b = order.AppendUint64(b, r.Version)
	b = append(b, text(r.Val)...)
	b = append(b, byte(len(r.Page)))
	for _, p := range r.Page {
		b = append(append(b, text(p.Key)...), text(p.Val)...)
	}
	b = append(b, flag(r.More))
	for _, n := range []uint64{uint64(r.Keys), uint64(r.Bytes), uint64(r.Charged), r.Seq} {
		b = order.AppendUint64(b, n)
	}
	b = append(b, byte(len(r.Buckets)))
	for _, n := range r.Buckets {
		b = append(b, byte(n))
	}
	return b
}

// sameLists is a request whose list of no ops is nil.
func sameLists(q command.Request) command.Request {
	if len(q.Ops) == 0 {
		q.Ops = nil
	}
	return q
}

// isSame tells whether two requests are alike, field by field.
func isSame(p, q command.Request) bool { return reflect.DeepEqual(sameLists(p), sameLists(q)) }

// isSameResponse tells whether two responses are alike, field by field.
func isSameResponse(p, r command.Response) bool {
	for _, x := range []*command.Response{&p, &r} {
		if len(x.Page) == 0 {
			x.Page = nil
		}
		if len(x.Buckets) == 0 {
			x.Buckets = nil
		}
	}
	return reflect.DeepEqual(p, r)
}

// requests are many that may be, of all tags.
func requests() []command.Request {
	var l []command.Request
	for tag := command.Create; tag <= command.Revoke; tag++ {
		l = append(l, least(tag), full(tag), greatest(tag))
		for _, del := range []bool{false, true} {
			for many := 1; many <= 16 && tag == command.Batch; many++ {
				q := full(tag)
				q.Ops = nil
				for range many {
					q.Ops = append(q.Ops, opOf(tag, del))
				}
				l = append(l, q)
			}
		}
	}
	return l
}

// A model that agrees with what is told, so that what is held against it stands on its own.
func TestTheModelReadsWhatIsTold(t *testing.T) {
	for _, q := range requests() {
		if x, is := modelRequest(told(q)); !is || !isSame(x, q) {
			t.Errorf("%+v is %+v to the model", q, x)
		}
	}
	for _, r := range responses() {
		if x, is := modelResponse(toldResponse(r)); !is || !isSameResponse(x, r) {
			t.Errorf("%+v is %+v to the model", r, x)
		}
	}
	for _, b := range []string{"", "\x00", "\x0e", "\x04\x01", "\x01"} {
		if x, is := modelRequest([]byte(b)); is || !isSame(x, command.Request{}) {
			t.Errorf("%q is %+v to the model", b, x)
		}
	}
}
