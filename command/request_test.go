package command_test

import (
	"bytes"
	"fmt"
	"math"
	"math/rand"
	"slices"
	"strings"
	"testing"

	"hassock/api"
	"hassock/command"
)

// may tells of a request that it may be, or may not: by Put, by Parse of what is put, and by Parse of its bytes as they'd be told.
func may(t *testing.T, what string, q command.Request, want bool) {
	t.Helper()
	b, err := command.Put(q)
	if !want {
		if itself(err) != api.ErrArg || len(b) != 0 {
			t.Errorf("%s: Put is %v and %v, not ErrArg", what, b, err)
		}
		return
	}
	if err != nil || !bytes.Equal(b, told(q)) {
		t.Errorf("%s: Put is %v and %v, not %v", what, b, err, told(q))
	}
	parses(t, what, told(q), q)
}

// parses tells of bytes that they must be just this request's.
func parses(t *testing.T, what string, b []byte, want command.Request) {
	t.Helper()
	if q, err := command.Parse(b); err != nil || !isSame(q, want) {
		t.Errorf("%s: Parse is %+v and %v, not %+v", what, q, err, want)
	}
}

// malformed tells of bytes that they must be no request's, with nothing told beside the code.
func malformed(t *testing.T, what string, b []byte) {
	t.Helper()
	if q, err := command.Parse(b); itself(err) != api.ErrForm || !isSame(q, command.Request{}) {
		t.Errorf("%s: Parse is %+v and %v, not ErrForm", what, q, err)
	}
}

// bytesMay tells of a request whose fields fit into their bytes that it may be, or may not: by Put, and by Parse.
func bytesMay(t *testing.T, what string, q command.Request, want bool) {
	t.Helper()
	may(t, what, q, want)
	if !want {
		malformed(t, what, told(q))
	}
}

// knownToken is 17 bytes long: see known.
const knownToken = "\x09\x02\x00\x00\x00\x03\x00\x00\x00\x04\x00\x00\x00\x00\x00\x00\x80"

// known are requests, and their bytes by hand.
func known() map[string]command.Request {
	token := api.Token{Bucket: 9, Gen: 2, Serial: 3, Secret: 1<<63 + 4}
	put, del := command.Op{Key: "ab", Val: "xyz", Cond: 5, TTL: 258}, command.Op{Del: true, Key: "c", Cond: 6}
	putBytes := "\x02\x00ab\x05\x00\x00\x00\x00\x00\x00\x00\x03\x00xyz\x02\x01\x00\x00\x00\x00\x00\x00"
	delBytes := "\x01\x00c\x06\x00\x00\x00\x00\x00\x00\x00"
	quota, quotaBytes := api.Quota{Keys: 1, Bytes: 1 << 40, Budget: 256},
		"\x01\x00\x00\x00\x00\x00\x00\x00\x00\x00\x00\x00\x00\x01\x00\x00\x00\x01\x00\x00\x00\x00\x00\x00"
	return map[string]command.Request{
		"\x01\x07\x00\x00\x00\x00\x00\x00\x00\x3f" + quotaBytes:                             {Tag: 1, Admin: 7, Bucket: 63, Quota: quota},
		"\x02\x07\x00\x00\x00\x00\x00\x00\x00\x05":                                          {Tag: 2, Admin: 7, Bucket: 5},
		"\x03\x07\x00\x00\x00\x00\x00\x00\x00\x00" + quotaBytes:                             {Tag: 3, Admin: 7, Quota: quota},
		"\x04\x01\x00\x00\x00\x00\x00\x00\x00":                                              {Tag: 4, Admin: 1},
		"\x05\x08\x07\x06\x05\x04\x03\x02\x01":                                              {Tag: 5, Admin: 0x0102030405060708},
		"\x06" + knownToken + putBytes:                                                      {Tag: 6, Token: token, Ops: []command.Op{put}},
		"\x07" + knownToken + "\x02\x00ab":                                                  {Tag: 7, Token: token, Ops: []command.Op{{Key: "ab"}}},
		"\x08" + knownToken + delBytes:                                                      {Tag: 8, Token: token, Ops: []command.Op{del}},
		"\x09" + knownToken + "\x01\x00" + putBytes:                                         {Tag: 9, Token: token, Ops: []command.Op{put}},
		"\x09" + knownToken + "\x03\x01" + delBytes + "\x00" + putBytes + "\x01" + delBytes: {Tag: 9, Token: token, Ops: []command.Op{del, put, del}},
		"\x0a" + knownToken + "\x02\x00ab\x01\x32":                                          {Tag: 10, Token: token, After: "ab", First: true, Count: 50},
		"\x0a" + knownToken + "\x00\x00\x00\x00":                                            {Tag: 10, Token: token},
		"\x0b" + knownToken:                                                                 {Tag: 11, Token: token},
		"\x0c" + knownToken + "\x06":                                                        {Tag: 12, Token: token, Rights: 6},
		"\x0d" + knownToken + "\x01\x02\x00\x00":                                            {Tag: 13, Token: token, Serial: 513},
		"\x0d" + knownToken + "\x00\x00\x00\x00":                                            {Tag: 13, Token: token},
		"\x0b" + strings.Repeat("\x00", 17):                                                 {Tag: 11},
		"\x04" + strings.Repeat("\x00", 8):                                                  {Tag: 4},
		"\x07" + strings.Repeat("\x00", 17) + "\x01\x00a":                                   {Tag: 7, Ops: []command.Op{{Key: "a"}}},
	}
}

// P16.1, P16.2
func TestKnownRequests(t *testing.T) {
	for b, q := range known() {
		if p, err := command.Put(q); err != nil || string(p) != b {
			t.Errorf("Put of %+v is %q and %v, not %q", q, p, err, b)
		}
		parses(t, fmt.Sprintf("%q", b), []byte(b), q)
	}
}

// P16.1, P16.2: the tags' numbers are those of the chapter's order.
func TestTagsOfRequests(t *testing.T) {
	l := []int{
		command.Create, command.Drop, command.Resize, command.Merge, command.List, command.Write, command.Get,
		command.Del, command.Batch, command.Fold, command.Stat, command.Mint, command.Revoke,
	}
	for i, tag := range l {
		if tag != i+1 {
			t.Errorf("%s is %d, not %d", tagNames[i+1], tag, i+1)
		}
	}
}

// P16.1, P16.2, P16.4
func TestRequestsOfEachTag(t *testing.T) {
	for _, q := range requests() {
		may(t, tagNames[q.Tag], q, true)
	}
}

// P16.2: also not where the tag's lowest byte is that of one.
func TestPutOfNoTag(t *testing.T) {
	may(t, "nothing at all", command.Request{}, false)
	for _, no := range []int{math.MinInt, -256, -255, -243, -1, 0, 14, 15, 128, 255, 256, 257, 269, 1 << 32, math.MaxInt} {
		may(t, fmt.Sprint("tag ", no), command.Request{Tag: no}, false)
		for tag := command.Create; tag <= command.Revoke; tag++ {
			q := full(tag)
			q.Tag = no
			may(t, fmt.Sprintf("tag %d, else %s", no, tagNames[tag]), q, false)
		}
	}
	for tag := command.Create; tag <= command.Revoke; tag++ {
		for _, off := range []int{-512, -256, 256, 512, 1 << 16, 1 << 32} {
			q := full(tag)
			q.Tag += off
			may(t, fmt.Sprint("tag ", q.Tag), q, false)
		}
	}
}

// P16.1
func TestParseOfNoTag(t *testing.T) {
	malformed(t, "nil", nil)
	malformed(t, "no bytes", []byte{})
	for no := range 256 {
		if no >= 1 && no <= 13 {
			continue
		}
		malformed(t, fmt.Sprint("tag ", no), []byte{byte(no)})
		for tag := command.Create; tag <= command.Revoke; tag++ {
			b := told(full(tag))
			b[0] = byte(no)
			malformed(t, fmt.Sprintf("tag %d, else %s", no, tagNames[tag]), b)
		}
	}
}

// P16.1: a request that is cut off anywhere is none, nor is one with bytes behind it.
func TestParseToTheEnd(t *testing.T) {
	for tag := command.Create; tag <= command.Revoke; tag++ {
		for _, q := range []command.Request{least(tag), full(tag)} {
			b := told(q)
			for end := range b {
				malformed(t, fmt.Sprintf("%s cut at %d", tagNames[tag], end), b[:end])
			}
			for _, more := range []string{"\x00", "\x01", "\xff", "\x00\x00", string(b)} {
				malformed(t, fmt.Sprintf("%s, and %q", tagNames[tag], more), append(slices.Clone(b), more...))
			}
		}
		b := told(greatest(tag))
		malformed(t, "the greatest, without its end", b[:len(b)-1])
		malformed(t, "the greatest, and more", append(b, 0))
	}
}

// setting is a field, and something else in it than 0.
type setting struct {
	name string
	set  func(*command.Request)
}

// settings have each field at some of what it may be where it is asked for.
func settings() []setting {
	l := []setting{
		{"First", func(q *command.Request) { q.First = true }},
		{"After", func(q *command.Request) { q.After = "a" }},
		{"After", func(q *command.Request) { q.After = textOf(64) }},
		{"Quota", func(q *command.Request) { q.Quota.Keys = 1 }},
		{"Quota", func(q *command.Request) { q.Quota.Bytes = 1 << 40 }},
		{"Quota", func(q *command.Request) { q.Quota.Budget = 1 }},
		{"Token", func(q *command.Request) { q.Token.Bucket = 1 }},
		{"Token", func(q *command.Request) { q.Token.Gen = 1 << 31 }},
		{"Token", func(q *command.Request) { q.Token.Serial = 1 }},
		{"Token", func(q *command.Request) { q.Token.Secret = 1 << 63 }},
	}
	for _, n := range []int{1, 5, 7} {
		l = append(l,
			setting{"Admin", func(q *command.Request) { q.Admin = uint64(n) << 56 }},
			setting{"Bucket", func(q *command.Request) { q.Bucket = n }},
			setting{"Count", func(q *command.Request) { q.Count = n }},
			setting{"Rights", func(q *command.Request) { q.Rights = n }},
			setting{"Serial", func(q *command.Request) { q.Serial = uint32(n) << 24 }})
	}
	return l
}

// P16.2: each field that a tag asks for may be set, and no other one.
func TestPutOfFieldsByTags(t *testing.T) {
	for tag := command.Create; tag <= command.Revoke; tag++ {
		for i, s := range settings() {
			for _, q := range []command.Request{least(tag), full(tag), greatest(tag)} {
				s.set(&q)
				may(t, fmt.Sprintf("%s with %s set (%d)", tagNames[tag], s.name, i), q, asks(tag, s.name))
			}
		}
	}
}

// P16.2: the same of ops where there may be none, whatever they are.
func TestPutOfOpsByTags(t *testing.T) {
	for tag := command.Create; tag <= command.Revoke; tag++ {
		q := full(tag)
		if asks(tag, "Ops") {
			continue
		}
		for _, op := range []command.Op{{}, {Key: "a"}, {Del: true, Key: "a"}, {Key: "a", Val: "b", Cond: 1, TTL: 1}} {
			q.Ops = []command.Op{op}
			may(t, fmt.Sprintf("%s with %+v", tagNames[tag], op), q, false)
		}
		q.Ops = []command.Op{}
		may(t, tagNames[tag]+" with an empty list", q, true)
	}
}

// P16.2: the ends of what a field can have are seen too, where it isn't asked for, and multiples of its bytes' numbers.
func TestPutOfOddFieldsThatATagDoesNotAskFor(t *testing.T) {
	for tag := command.Create; tag <= command.Revoke; tag++ {
		for _, n := range []int{math.MinInt, -256, -1, 8, 64, 256, 512, 1 << 32, math.MaxInt} {
			for name, set := range map[string]func(*command.Request){
				"Bucket": func(q *command.Request) { q.Bucket = n },
				"Count":  func(q *command.Request) { q.Count = n },
				"Rights": func(q *command.Request) { q.Rights = n },
				"Quota":  func(q *command.Request) { q.Quota = api.Quota{Keys: int64(n)} },
				"Token":  func(q *command.Request) { q.Token.Bucket = n },
			} {
				if q := full(tag); !asks(tag, name) {
					set(&q)
					may(t, fmt.Sprintf("%s with %s %d", tagNames[tag], name, n), q, false)
				}
			}
		}
		if q := full(tag); !asks(tag, "After") {
			q.After = textOf(65)
			may(t, tagNames[tag]+" with a long After", q, false)
		}
	}
}

// P16.1, P16.2
func TestRequestsBucket(t *testing.T) {
	for _, tag := range []int{command.Create, command.Drop, command.Resize} {
		for n := range 256 {
			q := full(tag)
			q.Bucket = n
			bytesMay(t, fmt.Sprintf("%s of bucket %d", tagNames[tag], n), q, n <= 63)
		}
		for _, n := range []int{math.MinInt, -256, -255, -193, -2, -1, 256, 257, 319, 1 << 32, math.MaxInt} {
			q := full(tag)
			q.Bucket = n
			may(t, fmt.Sprintf("%s of bucket %d", tagNames[tag], n), q, false)
		}
	}
}

// P16.1, P16.2
func TestRequestsQuota(t *testing.T) {
	for _, tag := range []int{command.Create, command.Resize} {
		for _, n := range []int64{
			math.MinInt64, math.MinInt64 + 1, -1 << 40, -2, -1, 0, 1, 255, 256, math.MaxUint32, 1 << 32,
			1<<40 - 1, 1 << 40, 1<<40 + 1, 1 << 41, 1 << 48, math.MaxInt64,
		} {
			for i := range 3 {
				for _, was := range []command.Request{least(tag), full(tag), greatest(tag)} {
					q := was
					*[]*int64{&q.Quota.Keys, &q.Quota.Bytes, &q.Quota.Budget}[i] = n
					bytesMay(t, fmt.Sprintf("%s with %+v", tagNames[tag], q.Quota), q, n >= 0 && n <= 1<<40)
				}
			}
		}
	}
}

// P16.1, P16.2: a Token's Bucket may be any byte, and all else of it any number.
func TestRequestsToken(t *testing.T) {
	for tag := command.Write; tag <= command.Revoke; tag++ {
		for n := range 256 {
			q := full(tag)
			q.Token.Bucket = n
			may(t, fmt.Sprintf("%s by a token of bucket %d", tagNames[tag], n), q, true)
		}
		for _, n := range []int{math.MinInt, -256, -255, -2, -1, 256, 257, 511, 512, 1 << 32, math.MaxInt} {
			q := full(tag)
			q.Token.Bucket = n
			may(t, fmt.Sprintf("%s by a token of bucket %d", tagNames[tag], n), q, false)
		}
		for bit := range 64 {
			q := full(tag)
			q.Token = api.Token{Bucket: bit, Gen: 1 << (bit % 32), Serial: 1 << (31 - bit%32), Secret: 1 << bit}
			may(t, fmt.Sprintf("%s by %+v", tagNames[tag], q.Token), q, true)
		}
	}
}

// P16.1, P16.2: one op is of Write, Get and Del, 1 to 16 of a Batch.
func TestRequestsHowManyOps(t *testing.T) {
	for _, tag := range []int{command.Write, command.Get, command.Del, command.Batch} {
		most := 1
		if tag == command.Batch {
			most = 16
		}
		for _, many := range []int{0, 1, 2, 3, 15, 16, 17, 18, 31, 32, 127, 128, 255} {
			q := full(tag)
			q.Ops = nil
			for range many {
				q.Ops = append(q.Ops, opOf(tag, many%2 == 0))
			}
			bytesMay(t, fmt.Sprintf("%s of %d ops", tagNames[tag], many), q, many >= 1 && many <= most)
		}
		for _, many := range []int{256, 257, 258, 272, 512, 513, 65537} {
			q := full(tag)
			q.Ops = slices.Repeat([]command.Op{opOf(tag, false)}, many)
			may(t, fmt.Sprintf("%s of %d ops", tagNames[tag], many), q, false)
		}
	}
}

// P16.1: how many ops there are isn't less, nor more, than is told.
func TestParseOfOtherCountsOfOps(t *testing.T) {
	for many := 1; many <= 16; many++ {
		q := full(command.Batch)
		q.Ops = slices.Repeat([]command.Op{opOf(command.Batch, many%2 == 0)}, many)
		for n := range 256 {
			b := told(q)
			if b[18] = byte(n); n != many {
				malformed(t, fmt.Sprintf("%d ops that are told to be %d", many, n), b)
			}
		}
	}
}

// withOp is a request with another op, at some place.
func withOp(tag, at int, change func(*command.Op)) command.Request {
	q := full(tag)
	if at >= len(q.Ops) {
		at = 0
	}
	change(&q.Ops[at])
	return q
}

// P16.1, P16.2
func TestRequestsKey(t *testing.T) {
	for _, tag := range []int{command.Write, command.Get, command.Del, command.Batch} {
		for at := range 3 {
			for _, length := range []int{0, 1, 2, 31, 63, 64, 65, 66, 127, 128, 255, 256, 257, 320, 1000, 1001, 65535} {
				q := withOp(tag, at, func(op *command.Op) { op.Key = textOf(length) })
				bytesMay(t, fmt.Sprintf("%s of a key of %d bytes", tagNames[tag], length), q, length >= 1 && length <= 64)
			}
			for _, length := range []int{65536, 65537, 65600, 131073} {
				q := withOp(tag, at, func(op *command.Op) { op.Key = textOf(length) })
				may(t, fmt.Sprintf("%s of a key of %d bytes", tagNames[tag], length), q, false)
			}
			for c := range 256 {
				for _, key := range []string{string([]byte{byte(c)}), string([]byte{byte(c), 'm', byte(c)})} {
					q := withOp(tag, at, func(op *command.Op) { op.Key = key })
					may(t, fmt.Sprintf("%s of key %q", tagNames[tag], key), q, true)
				}
			}
		}
	}
}

// P16.1, P16.2
func TestRequestsVal(t *testing.T) {
	for _, tag := range []int{command.Write, command.Batch} {
		for _, at := range []int{0, 2} {
			for _, length := range []int{0, 1, 2, 63, 64, 65, 255, 256, 257, 511, 512, 999, 1000, 1001, 1002, 1023, 1024, 2000, 65535} {
				q := withOp(tag, at, func(op *command.Op) { op.Val = textOf(length) })
				bytesMay(t, fmt.Sprintf("%s of a value of %d bytes", tagNames[tag], length), q, length <= 1000)
			}
			for _, length := range []int{65536, 65537, 66536, 131072} {
				q := withOp(tag, at, func(op *command.Op) { op.Val = textOf(length) })
				may(t, fmt.Sprintf("%s of a value of %d bytes", tagNames[tag], length), q, false)
			}
			for c := range 256 {
				q := withOp(tag, at, func(op *command.Op) { op.Val = string([]byte{byte(c)}) })
				may(t, fmt.Sprintf("%s of value byte %d", tagNames[tag], c), q, true)
			}
		}
	}
}

// P16.1, P16.2
func TestRequestsCondAndTTL(t *testing.T) {
	for bit := range 65 {
		n := uint64(1) << bit // 0 of bit 64
		for _, n := range []uint64{n, n - 1, ^n} {
			for _, tag := range []int{command.Write, command.Del, command.Batch} {
				for at := range 3 {
					q := withOp(tag, at, func(op *command.Op) { op.Cond = n })
					may(t, fmt.Sprintf("%s with Cond %d", tagNames[tag], n), q, true)
					q = withOp(tag, at, func(op *command.Op) { op.TTL = n })
					mayTTL := n == 0 || !q.Ops[min(at, len(q.Ops)-1)].Del
					may(t, fmt.Sprintf("%s with TTL %d", tagNames[tag], n), q, mayTTL)
				}
			}
		}
	}
}

// P16.2: Del is set of a Del's, not of a Write's and a Get's; a deletion has neither Val nor TTL; of a Get there is just Key.
func TestPutOfOpsFieldsByTags(t *testing.T) {
	for n := range 32 {
		op := command.Op{Key: "a"}
		op.Del = n&1 != 0
		if n&2 != 0 {
			op.Val = "v"
		}
		if n&4 != 0 {
			op.TTL = 1
		}
		if n&8 != 0 {
			op.Cond = 1
		}
		if n&16 != 0 {
			op.Key = ""
		}
		more := op.Val != "" || op.TTL != 0
		for tag, want := range map[int]bool{
			command.Write: !op.Del,
			command.Get:   !op.Del && !more && op.Cond == 0,
			command.Del:   op.Del && !more,
			command.Batch: !op.Del || !more,
		} {
			q := command.Request{Tag: tag, Ops: []command.Op{op}}
			may(t, fmt.Sprintf("%s of %+v", tagNames[tag], op), q, want && op.Key != "")
			if tag == command.Batch {
				for _, other := range []command.Op{opOf(tag, false), opOf(tag, true)} {
					q.Ops = []command.Op{other, op, other}
					may(t, fmt.Sprintf("%s of %+v among others", tagNames[tag], op), q, want && op.Key != "")
				}
			}
		}
	}
}

// P16.1: a byte that tells whether an op is a deletion is 0 or 1.
func TestParseOfDelFlag(t *testing.T) {
	for n := 2; n < 256; n++ {
		for at := range 3 {
			for _, del := range []bool{false, true} {
				q := full(command.Batch)
				q.Ops = slices.Repeat([]command.Op{opOf(command.Batch, del)}, 3)
				b := told(q)
				b[19+at*(1+len(opBytes(q.Ops[0], fieldsOf(del))))] = byte(n)
				malformed(t, fmt.Sprintf("op %d with flag %d", at, n), b)
			}
		}
	}
}

// fieldsOf are the fields of a Batch's op.
func fieldsOf(del bool) string {
	if del {
		return "Key,Cond"
	}
	return "Key,Cond,Val,TTL"
}

// P16.1, P16.2
func TestRequestsFold(t *testing.T) {
	for _, first := range []bool{false, true} {
		for _, length := range []int{0, 1, 2, 63, 64, 65, 66, 127, 255, 256, 257, 320, 1000, 65535} {
			q := full(command.Fold)
			q.After, q.First = textOf(length), first
			bytesMay(t, fmt.Sprintf("after a key of %d bytes", length), q, length <= 64)
		}
		for _, length := range []int{65536, 65537, 65600} {
			q := full(command.Fold)
			q.After, q.First = textOf(length), first
			may(t, fmt.Sprintf("after a key of %d bytes", length), q, false)
		}
		for n := range 256 {
			q := full(command.Fold)
			q.Count, q.First = n, first
			bytesMay(t, fmt.Sprintf("a page of %d", n), q, n <= 50)
		}
		for _, n := range []int{math.MinInt, -256, -206, -2, -1, 256, 257, 306, 1 << 32, math.MaxInt} {
			q := full(command.Fold)
			q.Count, q.First = n, first
			may(t, fmt.Sprintf("a page of %d", n), q, false)
		}
	}
	b := told(full(command.Fold))
	for n := 2; n < 256; n++ {
		b[len(b)-2] = byte(n)
		malformed(t, fmt.Sprintf("First of %d", n), b)
	}
}

// P16.1, P16.2
func TestRequestsRights(t *testing.T) {
	for n := range 256 {
		q := full(command.Mint)
		q.Rights = n
		bytesMay(t, fmt.Sprintf("rights %d", n), q, n >= 1 && n <= 7)
	}
	for _, n := range []int{math.MinInt, -256, -255, -249, -1, 256, 257, 263, 1<<32 + 1, math.MaxInt} {
		q := full(command.Mint)
		q.Rights = n
		may(t, fmt.Sprintf("rights %d", n), q, false)
	}
}

// P16.1, P16.2
func TestRequestsAdminAndSerial(t *testing.T) {
	for bit := range 65 {
		for tag := command.Create; tag <= command.List; tag++ {
			q := full(tag)
			q.Admin = 1 << bit
			may(t, fmt.Sprintf("%s of Admin %d", tagNames[tag], q.Admin), q, true)
		}
		q := full(command.Revoke)
		q.Serial = 1 << bit
		may(t, fmt.Sprintf("serial %d", q.Serial), q, true)
	}
}

// agrees tells of any bytes that Parse tells what the model tells, and that what is parsed is put as those bytes.
func agrees(t *testing.T, b []byte) bool {
	t.Helper()
	want, is := modelRequest(b)
	if !is {
		malformed(t, fmt.Sprintf("%q", b), b)
		return false
	}
	parses(t, fmt.Sprintf("%q", b), b, want)
	if p, err := command.Put(want); err != nil || !bytes.Equal(p, b) {
		t.Errorf("%q is put as %q and %v", b, p, err)
	}
	return true
}

// P16.1, P16.4: every other value at every byte is what the model tells.
func TestParseOfEachByteChanged(t *testing.T) {
	for tag := command.Create; tag <= command.Revoke; tag++ {
		for _, q := range []command.Request{least(tag), full(tag)} {
			b := told(q)
			for i := range b {
				for n := range 256 {
					x := slices.Clone(b)
					x[i] = byte(n)
					agrees(t, x)
				}
			}
		}
	}
}

// changed is bytes with a few of them changed, taken out or put in.
func changed(random *rand.Rand, b []byte) []byte {
	b = slices.Clone(b)
	for range 1 + random.Intn(3) {
		at := random.Intn(len(b) + 1)
		switch random.Intn(4) {
		case 0:
			b = slices.Insert(b, at, byte(random.Intn(3)))
		case 1:
			b = slices.Delete(b, at, min(len(b), at+1+random.Intn(3)))
		default:
			if at < len(b) {
				b[at] = []byte{0, 1, 2, 255, byte(random.Intn(256)), b[at] + 1, b[at] - 1}[random.Intn(7)]
			}
		}
	}
	return b
}

// P16.1, P16.4
func TestParseOfChangedRequests(t *testing.T) {
	random := rand.New(rand.NewSource(16))
	good, l := 0, requests()
	for range 100000 {
		if agrees(t, changed(random, told(l[random.Intn(len(l))]))) {
			good++
		}
	}
	if good < 1000 {
		t.Errorf("only %d were requests", good)
	}
}

// P16.1, P1: of any bytes.
func TestParseOfAnyBytes(t *testing.T) {
	random := rand.New(rand.NewSource(17))
	for range 100000 {
		b := make([]byte, random.Intn(60))
		for i := range b {
			b[i] = []byte{0, 0, 1, 2, byte(random.Intn(256))}[random.Intn(5)]
		}
		if len(b) > 0 {
			b[0] = byte(random.Intn(15))
		}
		agrees(t, b)
	}
	malformed(t, "very many zeros", make([]byte, 1<<20))
	for tag := command.Create; tag <= command.Revoke; tag++ {
		malformed(t, "very many bytes", append(told(full(tag)), make([]byte, 1<<20)...))
		malformed(t, "very many bytes", append([]byte{byte(tag)}, bytes.Repeat([]byte{255}, 1<<20)...))
	}
}

// odd is one of some numbers.
func odd(random *rand.Rand, l ...int) int { return l[random.Intn(len(l))] }

// anyRequest is a request that may be, or nearly.
func anyRequest(random *rand.Rand) command.Request {
	q := full(1 + random.Intn(13))
	for range random.Intn(3) {
		switch random.Intn(9) {
		case 0:
			q.Tag = odd(random, -1, 0, 1, 2, 3, 4, 5, 6, 7, 8, 9, 10, 11, 12, 13, 14, 256, 257)
		case 1:
			q.Bucket = odd(random, -1, 0, 1, 63, 64, 256)
		case 2:
			n := int64(odd(random, -1, 0, 1, 1<<40, 1<<40+1))
			*[]*int64{&q.Quota.Keys, &q.Quota.Bytes, &q.Quota.Budget}[random.Intn(3)] = n
		case 3:
			q.Token.Bucket = odd(random, -1, 0, 255, 256)
		case 4:
			q.Count = odd(random, -1, 0, 50, 51, 256)
		case 5:
			q.Rights = odd(random, -1, 0, 1, 7, 8, 257)
		case 6:
			q.After = textOf(odd(random, 0, 1, 64, 65))
		case 7:
			q.Ops = slices.Repeat([]command.Op{opOf(1+random.Intn(13), random.Intn(2) == 0)}, odd(random, 0, 1, 2, 16, 17))
		case 8:
			for i := range q.Ops {
				q.Ops[i].Key = textOf(odd(random, 0, 1, 64, 65))
				q.Ops[i].Val = textOf(odd(random, 0, 1, 1000, 1001))
			}
		}
	}
	return q
}

// P16.2, P1: a request is put just if its bytes are read as it was.
func TestPutOfAnyRequests(t *testing.T) {
	random := rand.New(rand.NewSource(18))
	good := 0
	for range 100000 {
		q := anyRequest(random)
		if q.Tag < 1 || q.Tag > 13 {
			may(t, fmt.Sprintf("%+v", q), q, false)
			continue
		}
		x, is := modelRequest(told(q))
		is = is && isSame(x, q)
		may(t, fmt.Sprintf("%+v", q), q, is)
		if is {
			good++
		}
	}
	if good < 10000 {
		t.Errorf("only %d were requests", good)
	}
}

// P16.3: what is parsed stays as it is, whatever becomes of the bytes.
func TestParsedIsNewMemory(t *testing.T) {
	for tag := command.Create; tag <= command.Revoke; tag++ {
		b := told(full(tag))
		first, err := command.Parse(b)
		second, _ := command.Parse(b)
		if err != nil || !bytes.Equal(b, told(full(tag))) {
			t.Errorf("%s: Parse changed its bytes (%v)", tagNames[tag], err)
		}
		for i := range b {
			b[i] = 255
		}
		if !isSame(first, full(tag)) {
			t.Errorf("%s: it became %+v", tagNames[tag], first)
		}
		for i := range first.Ops {
			first.Ops[i] = command.Op{}
		}
		_ = append(first.Ops, command.Op{Key: "more"})
		if !isSame(second, full(tag)) {
			t.Errorf("%s: the other one became %+v", tagNames[tag], second)
		}
	}
}

// P16.3: what is put stays as it is, and so does the request.
func TestPutIsNewMemory(t *testing.T) {
	for tag := command.Create; tag <= command.Revoke; tag++ {
		q := full(tag)
		memory := append(slices.Clone(q.Ops), command.Op{Key: "behind"})
		q.Ops = memory[:len(q.Ops)]
		first, err := command.Put(q)
		second, _ := command.Put(q)
		if err != nil || !isSame(q, full(tag)) || memory[len(q.Ops)].Key != "behind" {
			t.Errorf("%s: Put made it %+v (%v)", tagNames[tag], q, err)
		}
		for i := range first {
			first[i] = 255
		}
		_ = append(first, 255)
		for i := range q.Ops {
			q.Ops[i].Key = "other"
		}
		if !bytes.Equal(second, told(full(tag))) {
			t.Errorf("%s: it became %v", tagNames[tag], second)
		}
	}
}
