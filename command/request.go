package command

import (
	"slices"

	"hassock/api"
	"hassock/pack"
	"hassock/quota"
)

// Parts that a tag may ask for, in the order of their bytes.
const (
	asksAdmin = 1 << iota
	asksBucket
	asksQuota
	asksToken
	asksOps
	asksPage // After, First, Count
	asksRights
	asksSerial
)

// partsOf are the parts that a tag asks for; none, if there is no such tag.
func partsOf(tag int) int {
	switch tag {
	case Create, Resize:
		return asksAdmin | asksBucket | asksQuota
	case Drop:
		return asksAdmin | asksBucket
	case Merge, List:
		return asksAdmin
	case Write, Get, Del, Batch:
		return asksToken | asksOps
	case Fold:
		return asksToken | asksPage
	case Stat:
		return asksToken
	case Mint:
		return asksToken | asksRights
	case Revoke:
		return asksToken | asksSerial
	}
	return 0
}

// isWithinLimits tells whether there is such a tag, and what it asks for is within its limits.
func isWithinLimits(q Request) bool {
	return partsOf(q.Tag) != 0 &&
		q.Bucket >= 0 && q.Bucket < api.MaxBucket &&
		quota.May(q.Quota) &&
		areWithinLimits(q.Tag, q.Ops) &&
		len(q.After) <= api.MaxKey &&
		q.Count >= 0 && q.Count <= api.MaxPage &&
		(q.Tag != Mint || q.Rights >= 1 && q.Rights <= api.CanAll)
}

// areWithinLimits tells whether there are as many ops as a tag may have, and each is within its limits.
func areWithinLimits(tag int, l []Op) bool {
	least, most := 0, 0
	switch tag {
	case Write, Get, Del:
		least, most = 1, 1
	case Batch:
		least, most = 1, api.MaxOps
	}
	if len(l) < least || len(l) > most {
		return false
	}
	for _, op := range l {
		if len(op.Key) < 1 || len(op.Key) > api.MaxKey || len(op.Val) > api.MaxVal {
			return false
		}
	}
	return true
}

// put is a request's bytes: of its fields those that its tag asks for.
func put(q Request) []byte {
	parts := partsOf(q.Tag)
	out := pack.Put(nil, uint64(q.Tag), tagBytes)
	if parts&asksAdmin != 0 {
		out = pack.Put(out, q.Admin, secretBytes)
	}
	if parts&asksBucket != 0 {
		out = pack.Put(out, uint64(q.Bucket), bucketBytes)
	}
	if parts&asksQuota != 0 {
		out = putQuota(out, q.Quota)
	}
	if parts&asksToken != 0 {
		out = putToken(out, q.Token)
	}
	if parts&asksOps != 0 {
		out = putOps(out, q.Tag, q.Ops)
	}
	if parts&asksPage != 0 {
		out = pack.PutText(out, q.After)
		out = putFlag(out, q.First)
		out = pack.Put(out, uint64(q.Count), countBytes)
	}
	if parts&asksRights != 0 {
		out = pack.Put(out, uint64(q.Rights), rightsBytes)
	}
	if parts&asksSerial != 0 {
		out = pack.Put(out, uint64(q.Serial), serialBytes)
	}
	return out
}

// read is the request that bytes have at their front; where they are cut off, or it is none, whatever comes out.
func read(b []byte) Request {
	from := pack.New(b)
	q := Request{Tag: int(from.Number(tagBytes))}
	parts := partsOf(q.Tag)
	if parts&asksAdmin != 0 {
		q.Admin = from.Number(secretBytes)
	}
	if parts&asksBucket != 0 {
		q.Bucket = int(from.Number(bucketBytes))
	}
	if parts&asksQuota != 0 {
		q.Quota = nextQuota(from)
	}
	if parts&asksToken != 0 {
		q.Token = nextToken(from)
	}
	if parts&asksOps != 0 {
		q.Ops = nextOps(from, q.Tag)
	}
	if parts&asksPage != 0 {
		q.After = from.Text()
		q.First = nextFlag(from)
		q.Count = int(from.Number(countBytes))
	}
	if parts&asksRights != 0 {
		q.Rights = int(from.Number(rightsBytes))
	}
	if parts&asksSerial != 0 {
		q.Serial = uint32(from.Number(serialBytes))
	}
	return q
}

// putOps is out, and behind it the ops of a tag.
func putOps(out []byte, tag int, l []Op) []byte {
	if tag == Batch {
		out = pack.Put(out, uint64(len(l)), countBytes)
	}
	for _, op := range l {
		if tag == Batch {
			out = putFlag(out, op.Del)
		}
		out = putOp(out, tag, op)
	}
	return out
}

// nextOps are the next ops, of a tag that asks for them.
func nextOps(from *pack.Reader, tag int) []Op {
	if tag != Batch {
		return []Op{nextOp(from, tag, tag == Del)}
	}
	var l []Op
	for range from.Number(countBytes) {
		l = append(l, nextOp(from, tag, nextFlag(from)))
	}
	return l
}

// putOp is out, and behind it an op, but for its Del.
func putOp(out []byte, tag int, op Op) []byte {
	out = pack.PutText(out, op.Key)
	if tag == Get {
		return out
	}
	out = pack.Put(out, op.Cond, stampBytes)
	if op.Del {
		return out
	}
	out = pack.PutText(out, op.Val)
	return pack.Put(out, op.TTL, stampBytes)
}

// nextOp is the next op, whose Del is known.
func nextOp(from *pack.Reader, tag int, del bool) Op {
	op := Op{Del: del, Key: from.Text()}
	if tag == Get {
		return op
	}
	op.Cond = from.Number(stampBytes)
	if del {
		return op
	}
	op.Val = from.Text()
	op.TTL = from.Number(stampBytes)
	return op
}

// isSame tells whether two requests are the same.
func isSame(p, q Request) bool {
	return p.Tag == q.Tag &&
		p.Admin == q.Admin &&
		p.Bucket == q.Bucket &&
		p.Quota == q.Quota &&
		p.Token == q.Token &&
		slices.Equal(p.Ops, q.Ops) &&
		p.After == q.After &&
		p.First == q.First &&
		p.Count == q.Count &&
		p.Rights == q.Rights &&
		p.Serial == q.Serial
}
