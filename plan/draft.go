package plan

import (
	"math"

	"hassock/api"
	"hassock/bucket"
	"hassock/quota"
	"hassock/record"
)

// draft is what a bucket would be, with some records applied. The bucket itself stays as it is.
type draft struct {
	b       *bucket.Bucket
	changed map[string]state // by keys that a record is of
	puts    bool             // there is a put among the records
	next    uint64           // the next version
	keys    int64
	bytes   int64
	cost    int64 // of all records
}

// state is what there is of a key; all is 0 of one that isn't there.
type state struct {
	keys    int64 // 1, if it is there
	bytes   int64 // the key's, and its value's
	version uint64
}

func newDraft(b *bucket.Bucket) *draft {
	return &draft{b: b, changed: map[string]state{}, next: b.Meta().Seq, keys: b.Keys(), bytes: b.Bytes()}
}

// add applies a record of a put or a deletion, which gets the next version; or it tells why not.
func (d *draft) add(r *api.Record, cond uint64) error {
	was := d.of(r.Key)
	switch {
	case cond != 0 && cond != was.version:
		return api.ErrVersion
	case r.Kind == api.RDel && was.keys == 0:
		return api.ErrNone
	case d.next == math.MaxUint64:
		return api.ErrLimit
	}
	r.Version = d.next
	d.next++
	var is state
	if r.Kind == api.RPut {
		d.puts = true
		is = state{keys: 1, bytes: int64(len(r.Key) + len(r.Val)), version: r.Version}
	}
	d.changed[r.Key] = is
	d.keys += is.keys - was.keys
	d.bytes += is.bytes - was.bytes
	d.cost += record.Cost(*r)
	return nil
}

// of is what there is of a key, with the records applied.
func (d *draft) of(key string) state {
	if s, is := d.changed[key]; is {
		return s
	}
	e, there := d.b.Get(key)
	if !there {
		return state{}
	}
	return state{keys: 1, bytes: int64(len(key) + e.Size), version: e.Version}
}

// check holds it against the bucket's quota. Deletions alone may leave more keys and bytes than that has.
func (d *draft) check() error {
	keys, bytes := d.keys, d.bytes
	if !d.puts {
		keys, bytes = 0, 0
	}
	return quota.Check(d.b.Meta().Quota, keys, bytes, d.b.Charged(), d.cost)
}
