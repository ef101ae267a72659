package bucket_test

import (
	"fmt"
	"math"
	"slices"
	"strings"
	"testing"

	"hassock/api"
	"hassock/bucket"
	"hassock/keydir"
	"hassock/record"
)

// The bucket that most tests have.
const (
	id  = 4
	gen = 2
)

// some is a quota.
var some = api.Quota{Keys: 9, Bytes: 1000, Budget: 1 << 40}

// versions are edges of what a version or an expiry may be, rising.
var versions = []uint64{0, 1, 2, 3, 255, 256, math.MaxUint32, math.MaxUint32 + 1, math.MaxInt64, 1 << 63, math.MaxUint64 - 1, math.MaxUint64}

// serials are edges of what a serial may be, rising.
var serials = []uint32{0, 1, 2, 9, 10, 255, 256, math.MaxInt32, math.MaxInt32 + 1, math.MaxUint32 - 1, math.MaxUint32}

func putOf(key, val string, version, expiry uint64) api.Record {
	return api.Record{Kind: api.RPut, Bucket: id, Gen: gen, Key: key, Val: val, Version: version, Expiry: expiry}
}

func delOf(key string, version uint64) api.Record {
	return api.Record{Kind: api.RDel, Bucket: id, Gen: gen, Key: key, Version: version}
}

func tokenOf(serial uint32, rights int, secret uint64) api.Record {
	return api.Record{Kind: api.RToken, Bucket: id, Gen: gen, Serial: serial, Rights: rights, Secret: secret}
}

func revokeOf(serial uint32) api.Record {
	return api.Record{Kind: api.RRevoke, Bucket: id, Gen: gen, Serial: serial}
}

func metaOf(q api.Quota, seq uint64, serial uint32) api.Record {
	return api.Record{Kind: api.RBucket, Bucket: id, Gen: gen, Quota: q, Seq: seq, Serial: serial}
}

// must applies records that must be applied.
func (p pair) must(l ...api.Record) {
	p.t.Helper()
	for i, r := range l {
		if !p.apply(r, api.Spot{Seg: i + 1, At: 10 * i, Len: 100 + i}) {
			p.t.Fatalf("%+v isn't applied", r)
		}
	}
	p.hold()
}

// holdSeq holds the next version, and the next serial.
func (p pair) holdSeq(seq uint64, serial uint32) {
	p.t.Helper()
	if r := p.b.Meta(); r.Seq != seq || r.Serial != serial {
		p.t.Errorf("the next version is %d and the next serial %d, not %d and %d", r.Seq, r.Serial, seq, serial)
	}
}

// filled is a bucket with some of all.
func filled(t *testing.T) pair {
	t.Helper()
	p := newPair(t, id, gen, some)
	p.must(tokenOf(1, api.CanAll, 11), tokenOf(2, api.CanRead, 22), tokenOf(3, api.CanMint, 33), revokeOf(2))
	p.must(putOf("b", "22", 1, 0), putOf("a", "1", 2, 50), putOf("c", "", 3, 60), delOf("c", 4), putOf("d", "4444", 5, 70))
	return p
}

// P15.1: the chapter's example.
func TestExample(t *testing.T) {
	b := bucket.New(id, gen, some)
	if !b.Apply(putOf("a", "", 1, 0), api.Spot{}) || b.Meta().Seq != 2 || b.Keys() != 1 {
		t.Errorf("a put of version 1 makes %+v and %d keys", b.Meta(), b.Keys())
	}
}

// P15.1, P15.2: a new one has nothing but its number, generation and quota, and counters of 1.
func TestNewBucket(t *testing.T) {
	for _, id := range []int{0, 1, 62, 63} {
		for _, gen := range []uint32{1, 2, math.MaxInt32 + 1, math.MaxUint32} {
			for _, q := range []api.Quota{{}, {Keys: 1, Bytes: 2, Budget: 3}, {Keys: 1 << 40, Bytes: 1 << 40, Budget: 1 << 40}} {
				b := bucket.New(id, gen, q)
				want := api.Record{Kind: 1, Bucket: id, Gen: gen, Quota: q, Seq: 1, Serial: 1}
				if r := b.Meta(); r != want || !record.May(r) {
					t.Errorf("Meta is %+v, not %+v", r, want)
				}
				if b.Keys() != 0 || b.Bytes() != 0 || b.Charged() != 0 || len(b.Entries()) != 0 || len(b.Tokens()) != 0 {
					t.Errorf("a new bucket has %d keys, %d bytes, charge %d, %v, %v", b.Keys(), b.Bytes(), b.Charged(), b.Entries(), b.Tokens())
				}
				if b.Tick(math.MaxUint64) != 0 {
					t.Error("a new bucket has keys that are gone")
				}
			}
		}
	}
}

// P15.1: each of a put's fields, and its spot, is in its entry.
func TestPut(t *testing.T) {
	for _, key := range []string{"a", "\x00", "\xff\xfe", strings.Repeat("k", 63), strings.Repeat("é", 32)} {
		for _, val := range []string{"", "v", "\x00\xff", strings.Repeat("v", 999), strings.Repeat("v", 1000)} {
			for _, n := range versions {
				p := newPair(t, id, gen, some)
				s := api.Spot{Seg: 3, At: 20, Len: int(n % 100)}
				if !p.apply(putOf(key, val, n, n/2), s) {
					t.Fatalf("a put of %q isn't applied", key)
				}
				p.hold()
				e, there := p.b.Get(key)
				if want := (keydir.Entry{Key: key, Spot: s, Version: n, Expiry: n / 2, Size: len(val)}); !there || e != want {
					t.Errorf("Get is %+v, %t, not %+v", e, there, want)
				}
				if n := p.b.Bytes(); n != int64(len(key)+len(val)) {
					t.Errorf("Bytes is %d, not %d and %d", n, len(key), len(val))
				}
			}
		}
	}
}

// P15.1: a spot may be any.
func TestPutAtAnySpot(t *testing.T) {
	p := newPair(t, id, gen, some)
	for _, s := range []api.Spot{{}, {Seg: -1, At: -2, Len: -3}, {Seg: math.MaxInt64, At: math.MinInt64, Len: 1}} {
		p.apply(putOf("a", "1", 1, 0), s)
		if e, _ := p.b.Get("a"); e.Spot != s {
			t.Errorf("the spot is %v, not %v", e.Spot, s)
		}
	}
}

// P15.1: a key has one entry, that of the last put, and its bytes alone count; also if its version is a lesser one.
func TestPutOnceMore(t *testing.T) {
	p := newPair(t, id, gen, some)
	p.must(putOf("a", "12345", 5, 9), putOf("b", "", 6, 0))
	for _, c := range []struct {
		val     string
		version uint64
		expiry  uint64
		bytes   int64
	}{{"1", 7, 0, 3}, {"", 7, 8, 2}, {"1234567", 2, 7, 9}, {"1234567", 0, 7, 9}, {strings.Repeat("v", 1000), 99, 0, 1002}} {
		p.must(putOf("a", c.val, c.version, c.expiry))
		if p.b.Keys() != 2 || p.b.Bytes() != c.bytes {
			t.Errorf("%d keys and %d bytes, not 2 and %d", p.b.Keys(), p.b.Bytes(), c.bytes)
		}
		if e, _ := p.b.Get("a"); e.Version != c.version || e.Expiry != c.expiry || e.Size != len(c.val) {
			t.Errorf("the entry is %+v", e)
		}
	}
}

// P15.1: the next version is at least one more than a put's and a deletion's, and never less than it was.
func TestSeq(t *testing.T) {
	for _, version := range versions {
		for _, seq := range versions {
			want := seq
			if version >= seq {
				want = version + 1
			}
			if version == math.MaxUint64 {
				want = math.MaxUint64
			}
			for _, r := range []api.Record{putOf("a", "1", version, 0), delOf("a", version), delOf("b", version)} {
				p := newPair(t, id, gen, some)
				p.must(metaOf(some, seq, 7), putOf("a", "", 0, 0), metaOf(some, seq, 7), r)
				p.holdSeq(want, 7)
			}
		}
	}
}

// P15.1: a deletion takes out its key, and no other one.
func TestDel(t *testing.T) {
	p := newPair(t, id, gen, some)
	p.must(putOf("a", "1", 1, 0), putOf("b", "22", 2, 5), putOf("c", "333", 3, 0))
	p.must(delOf("b", 4))
	if e, there := p.b.Get("b"); there || e != (keydir.Entry{}) {
		t.Errorf("behind its deletion b is %+v, %t", e, there)
	}
	if p.b.Keys() != 2 || p.b.Bytes() != 6 {
		t.Errorf("%d keys and %d bytes are left, not 2 and 6", p.b.Keys(), p.b.Bytes())
	}
	p.must(delOf("a", 5), delOf("c", 6))
	if p.b.Keys() != 0 || p.b.Bytes() != 0 {
		t.Errorf("%d keys and %d bytes are left, not none", p.b.Keys(), p.b.Bytes())
	}
	p.holdSeq(7, 1)
}

// P15.1: a deletion of a key that isn't there is applied, too: it is charged, and the next version is behind its own.
func TestDelOfNone(t *testing.T) {
	p := newPair(t, id, gen, some)
	p.must(putOf("a", "1", 1, 0), delOf("b", 5), delOf("b", 5))
	if p.b.Charged() != 36+25+25 || p.b.Keys() != 1 {
		t.Errorf("the charge is %d, not %d; %d keys", p.b.Charged(), 36+25+25, p.b.Keys())
	}
	p.holdSeq(6, 1)
}

// P15.1: an RBucket sets quota, Seq and the next serial, to less and to more, and nothing else, without a charge.
func TestMetaIsSet(t *testing.T) {
	p := filled(t)
	charged, entries, tokens := p.b.Charged(), p.b.Entries(), p.b.Tokens()
	for _, q := range []api.Quota{{}, {Keys: 1}, {Bytes: 1}, {Budget: 1}, {Keys: 1 << 40, Bytes: 1 << 40, Budget: 1 << 40}} {
		for _, seq := range versions {
			for _, serial := range serials {
				p.must(metaOf(q, seq, serial))
				p.holdSeq(seq, serial)
				if p.b.Meta().Quota != q {
					t.Errorf("the quota is %v, not %v", p.b.Meta().Quota, q)
				}
			}
		}
	}
	if p.b.Charged() != charged || !slices.Equal(p.b.Entries(), entries) || !slices.Equal(p.b.Tokens(), tokens) {
		t.Errorf("it became %d, %v, %v", p.b.Charged(), p.b.Entries(), p.b.Tokens())
	}
}

// P15.1: the next serial is at least one more than a token's, and never less than it was.
func TestSerial(t *testing.T) {
	for _, serial := range serials {
		for _, next := range serials {
			want := next
			if serial >= next {
				want = serial + 1
			}
			if serial == math.MaxUint32 {
				want = math.MaxUint32
			}
			p := newPair(t, id, gen, some)
			p.must(metaOf(some, 8, next), tokenOf(serial, 1, 2))
			p.holdSeq(8, want)
			// A revocation leaves it as it is.
			p.must(revokeOf(serial), revokeOf(math.MaxUint32))
			p.holdSeq(8, want)
		}
	}
}

// P15.1, P15.2: each token has the rights that its record tells, and the last one of a serial counts.
func TestTokens(t *testing.T) {
	p := newPair(t, id, gen, some)
	p.must(tokenOf(5, 3, 8), tokenOf(4, 7, 9), tokenOf(5, 1, 8), tokenOf(0, 4, 0), tokenOf(math.MaxUint32, 2, math.MaxUint64))
	for _, c := range []struct {
		serial uint32
		secret uint64
		want   int
	}{{5, 8, 1}, {5, 9, 0}, {4, 9, 7}, {4, 8, 0}, {0, 0, 4}, {1, 0, 0}, {math.MaxUint32, math.MaxUint64, 2}, {math.MaxUint32, 0, 0}} {
		if r := p.b.Rights(api.Token{Bucket: id, Gen: gen, Serial: c.serial, Secret: c.secret}); r != c.want {
			t.Errorf("rights of serial %d with secret %d are %d, not %d", c.serial, c.secret, r, c.want)
		}
	}
	want := []api.Record{tokenOf(0, 4, 0), tokenOf(4, 7, 9), tokenOf(5, 1, 8), tokenOf(math.MaxUint32, 2, math.MaxUint64)}
	if l := p.b.Tokens(); !slices.Equal(l, want) {
		t.Errorf("Tokens are %+v, not %+v", l, want)
	}
}

// P15.2: a token of another number or generation has no rights, also where all its lowest bits are alike.
func TestRightsOfAnotherBucket(t *testing.T) {
	for _, id := range []int{0, 1, 63} {
		for _, gen := range []uint32{1, 2, math.MaxUint32} {
			p := newPair(t, id, gen, some)
			p.must(api.Record{Kind: api.RToken, Bucket: id, Gen: gen, Serial: 6, Rights: 7, Secret: 5})
			if r := p.b.Rights(api.Token{Bucket: id, Gen: gen, Serial: 6, Secret: 5}); r != 7 {
				t.Errorf("its own token has rights %d", r)
			}
			for _, b := range []int{id - 1, id + 1, -id - 1, id + 64, id + 256, id + 1<<32, math.MinInt64 + id} {
				if r := p.b.Rights(api.Token{Bucket: b, Gen: gen, Serial: 6, Secret: 5}); r != 0 {
					t.Errorf("a token of bucket %d has rights %d of bucket %d", b, r, id)
				}
			}
			for _, g := range []uint32{0, gen - 1, gen + 1, gen + 1<<16, gen ^ 1<<31} {
				if r := p.b.Rights(api.Token{Bucket: id, Gen: g, Serial: 6, Secret: 5}); r != 0 {
					t.Errorf("a token of generation %d has rights %d of generation %d", g, r, gen)
				}
			}
		}
	}
}

// P15.1: a token beyond the hundredth is passed by, without a charge, and the next serial stays; one of a serial that is there is put.
func TestTooManyTokens(t *testing.T) {
	p := newPair(t, id, gen, some)
	for n := range uint32(100) {
		p.must(tokenOf(n+10, 1, 7))
	}
	for _, serial := range []uint32{0, 9, 110, 111, math.MaxUint32} {
		p.passBy("a full bucket", tokenOf(serial, 1, 7))
		if p.apply(tokenOf(serial, 1, 7), api.Spot{}) {
			t.Errorf("serial %d is put into a full bucket", serial)
		}
	}
	p.holdSeq(1, 110)
	if n := p.b.Charged(); n != 2700 {
		t.Errorf("the charge is %d, not 2700", n)
	}
	p.must(tokenOf(10, 2, 8), tokenOf(109, 2, 8))
	if n := p.b.Charged(); n != 2754 || len(p.b.Tokens()) != 100 {
		t.Errorf("the charge is %d, not 2754; %d tokens", n, len(p.b.Tokens()))
	}
	p.must(revokeOf(50), tokenOf(300, 4, 9))
	p.passBy("a bucket that is full again", tokenOf(50, 1, 7))
	p.holdSeq(1, 301)
}

// P15.1: a token that is revoked has no rights; of one that isn't there the revocation is applied, too, and charged.
func TestRevoke(t *testing.T) {
	p := newPair(t, id, gen, some)
	p.must(tokenOf(5, 3, 8), tokenOf(6, 1, 8), revokeOf(5), revokeOf(5), revokeOf(77))
	if r := p.b.Rights(api.Token{Bucket: id, Gen: gen, Serial: 5, Secret: 8}); r != 0 {
		t.Errorf("behind its revocation it has rights %d", r)
	}
	if n := p.b.Charged(); n != 27+27+3*18 {
		t.Errorf("the charge is %d, not %d", n, 27+27+3*18)
	}
	p.holdSeq(1, 7)
}

// P15.1: what a record costs is charged, by its kind and its texts, once for each time.
func TestCharged(t *testing.T) {
	p := newPair(t, id, gen, some)
	var sum int64
	for _, c := range []struct {
		r    api.Record
		cost int64
	}{
		{putOf("a", "", 1, 0), 35}, {putOf("ab", "cde", 1, 9), 39}, {putOf("a", "", 1, 0), 35},
		{putOf(strings.Repeat("k", 64), strings.Repeat("v", 1000), 1, 0), 1098},
		{delOf("a", 2), 25}, {delOf(strings.Repeat("k", 64), 2), 88},
		{tokenOf(1, 1, 1), 27}, {revokeOf(1), 18}, {metaOf(some, 9, 9), 0},
	} {
		p.must(c.r)
		sum += c.cost
		if n := p.b.Charged(); n != sum {
			t.Errorf("behind %+v the charge is %d, not %d", c.r, n, sum)
		}
		if c.cost != 0 && record.Cost(c.r) != c.cost {
			t.Errorf("%+v costs %d, not %d", c.r, record.Cost(c.r), c.cost)
		}
	}
	p.tick(math.MaxUint64)
	if n := p.b.Charged(); n != sum {
		t.Errorf("a Tick made the charge %d", n)
	}
}

// applied are records of each kind that would be applied.
func applied() []api.Record {
	return []api.Record{
		metaOf(api.Quota{Keys: 1}, 99, 99), putOf("a", "new", 99, 9), putOf("z", "", 99, 0), delOf("a", 99),
		tokenOf(1, 1, 99), tokenOf(99, 7, 99), revokeOf(1),
	}
}

// P15.1: of another number or generation nothing is applied.
func TestOthersArePassedBy(t *testing.T) {
	p := filled(t)
	for _, r := range applied() {
		for _, b := range []int{0, 1, 3, 5, 63} {
			x := r
			x.Bucket = b
			p.passBy("another number", x)
		}
		for _, g := range []uint32{1, 3, gen + 1<<8, gen + 1<<16, gen + 1<<31, math.MaxUint32} {
			x := r
			x.Gen = g
			p.passBy("another generation", x)
		}
	}
	for _, r := range applied() {
		p.must(r)
	}
}

// P15.1: nor are the other kinds.
func TestOtherKindsArePassedBy(t *testing.T) {
	p := filled(t)
	for _, kind := range []int{api.RDrop, api.RGen} {
		p.passBy("another kind", api.Record{Kind: kind, Bucket: id, Gen: gen})
		p.passBy("another kind", api.Record{Kind: kind, Bucket: id, Gen: gen + 1})
	}
	for _, kind := range []int{-1, 0, 8, 256 + api.RPut, math.MinInt64} {
		p.passBy("no kind", api.Record{Kind: kind, Bucket: id, Gen: gen})
		p.passBy("no kind", api.Record{Kind: kind, Bucket: id, Gen: gen, Key: "a"})
	}
}

// P15.1: nor is what may not be, though its number and generation are the bucket's.
func TestWhatMayNotBeIsPassedBy(t *testing.T) {
	p := filled(t)
	for _, r := range []api.Record{
		{},
		putOf("", "1", 9, 0), putOf(strings.Repeat("k", 65), "1", 9, 0), putOf("a", strings.Repeat("v", 1001), 9, 0),
		delOf("", 9), delOf(strings.Repeat("k", 65), 9),
		tokenOf(9, 0, 9), tokenOf(9, -1, 9), tokenOf(9, 8, 9), tokenOf(1, 8, 9),
		metaOf(api.Quota{Keys: -1}, 9, 9), metaOf(api.Quota{Bytes: 1<<40 + 1}, 9, 9), metaOf(api.Quota{Budget: math.MaxInt64}, 9, 9),
	} {
		p.passBy("may not be", r)
	}
	for _, set := range []func(r *api.Record){
		func(r *api.Record) { r.Quota.Keys++ },
		func(r *api.Record) { r.Val += "v" },
		func(r *api.Record) { r.Secret++ },
		func(r *api.Record) { r.Expiry++ },
	} {
		for _, r := range applied() {
			set(&r)
			if !record.May(r) {
				p.passBy("a field that its kind doesn't name", r)
			}
		}
	}
}

// P15.1: buckets of a number or a generation that no record may have take none.
func TestBucketsWithoutRecords(t *testing.T) {
	for _, c := range []struct {
		id  int
		gen uint32
	}{{-1, 1}, {64, 1}, {math.MaxInt64, 1}, {math.MinInt64, 1}, {4, 0}, {-1, 0}} {
		q := api.Quota{Keys: -1, Bytes: math.MaxInt64, Budget: math.MinInt64}
		b := bucket.New(c.id, c.gen, q)
		for _, r := range applied() {
			r.Bucket, r.Gen = c.id, c.gen
			if b.Apply(r, api.Spot{}) {
				t.Errorf("%+v is applied", r)
			}
		}
		b.Recharge()
		want := api.Record{Kind: api.RBucket, Bucket: c.id, Gen: c.gen, Quota: q, Seq: 1, Serial: 1}
		if b.Meta() != want || b.Tick(9) != 0 || b.Charged() != 0 || b.Rights(api.Token{Bucket: c.id, Gen: c.gen}) != 0 {
			t.Errorf("it became %+v, with a charge of %d", b.Meta(), b.Charged())
		}
	}
}

// P15.1: a key is gone from its expiry on, and never with an expiry of 0.
func TestTick(t *testing.T) {
	for _, expiry := range versions {
		for _, now := range versions {
			p := newPair(t, id, gen, some)
			p.must(putOf("a", "12", 1, expiry), putOf("b", "345", 2, 0))
			want := 0
			if expiry != 0 && expiry <= now {
				want = 1
			}
			if n := p.tick(now); n != want {
				t.Errorf("at %d %d keys are gone, not %d: it ends at %d", now, n, want, expiry)
			}
			p.hold()
			if _, there := p.b.Get("a"); there != (want == 0) {
				t.Errorf("at %d it is there: %t; it ends at %d", now, there, expiry)
			}
			if p.tick(now) != 0 {
				t.Errorf("at %d it is gone once more", now)
			}
			p.holdSeq(3, 1)
		}
	}
}

// P15.1: many are gone at once, whatever the order of their times and keys.
func TestTickOfMany(t *testing.T) {
	p := newPair(t, id, gen, some)
	for n := range 100 {
		p.must(putOf(fmt.Sprint("k", n), strings.Repeat("v", n), uint64(n), uint64(n*37%100)))
	}
	gone := 0
	for _, now := range []uint64{0, 1, 2, 2, 50, 49, 10, 98, 99, 1000} {
		gone += p.tick(now)
		p.hold()
	}
	if gone != 99 || p.b.Keys() != 1 || p.b.Bytes() != 2 {
		t.Errorf("%d are gone, %d are left, of %d bytes", gone, p.b.Keys(), p.b.Bytes())
	}
}

// P15.1: what counts is the expiry that the key has, not those that it had.
func TestTickOfAKeyThatWasPutAnew(t *testing.T) {
	for _, c := range []struct {
		what  string
		l     []api.Record
		there []uint64 // times at which it is there
		gone  uint64   // the time from which on it isn't; 0: never
	}{
		{"later", []api.Record{putOf("a", "1", 1, 5), putOf("a", "1", 2, 9)}, []uint64{4, 5, 6, 8}, 9},
		{"earlier", []api.Record{putOf("a", "1", 1, 9), putOf("a", "1", 2, 5)}, []uint64{3, 4}, 5},
		{"never", []api.Record{putOf("a", "1", 1, 5), putOf("a", "1", 2, 0)}, []uint64{5, 6, math.MaxUint64}, 0},
		{"behind never", []api.Record{putOf("a", "1", 1, 0), putOf("a", "1", 2, 5)}, []uint64{1, 4}, 5},
		{"the same", []api.Record{putOf("a", "1", 1, 5), putOf("a", "1", 2, 5), putOf("a", "1", 2, 5)}, []uint64{4}, 5},
		{"there and back", []api.Record{putOf("a", "1", 1, 5), putOf("a", "1", 2, 9), putOf("a", "1", 3, 5)}, []uint64{4}, 5},
		{"deleted", []api.Record{putOf("a", "1", 1, 5), delOf("a", 2), putOf("a", "1", 3, 9)}, []uint64{5, 8}, 9},
		{"deleted, and the same", []api.Record{putOf("a", "1", 1, 5), delOf("a", 2), putOf("a", "1", 3, 5)}, []uint64{4}, 5},
		{"deleted, and never", []api.Record{putOf("a", "1", 1, 5), delOf("a", 2), putOf("a", "1", 3, 0)}, []uint64{5, math.MaxUint64}, 0},
	} {
		p := newPair(t, id, gen, some)
		p.must(putOf("b", "", 1, 0), putOf("c", "", 1, math.MaxUint64), putOf("d", "", 1, 0))
		p.must(c.l...)
		p.must(delOf("c", 2))
		for _, now := range c.there {
			if n := p.tick(now); n != 0 {
				t.Errorf("%s: at %d %d are gone", c.what, now, n)
			}
		}
		if c.gone != 0 && p.tick(c.gone) != 1 {
			t.Errorf("%s: at %d it isn't gone", c.what, c.gone)
		}
		p.hold()
		if n := p.tick(math.MaxUint64); n != 0 {
			t.Errorf("%s: at the end %d are gone", c.what, n)
		}
		p.hold()
	}
}

// P15.1: each key is gone at its own time, up to the greatest one, however often another one was put and deleted meanwhile.
func TestTickBehindMuchElse(t *testing.T) {
	for turns := range 40 {
		p := newPair(t, id, gen, some)
		for i, expiry := range versions {
			p.must(putOf(fmt.Sprint("k", i), "1", 1, expiry))
		}
		for n := range uint64(turns) {
			p.must(putOf("x", "", 1, 7+n%3), putOf("x", "", 1, math.MaxUint64-n%3), delOf("x", 1))
		}
		for _, now := range versions[1:] {
			p.tick(now - 1)
			p.hold()
			p.tick(now)
			p.hold()
		}
		if n := p.b.Keys(); n != 1 {
			t.Errorf("%d keys are left at the end, not just the one that never ends", n)
		}
	}
}

// P15.1: a key that is deleted isn't gone once more at its time.
func TestTickOfADeletedKey(t *testing.T) {
	p := newPair(t, id, gen, some)
	p.must(putOf("a", "1", 1, 5), putOf("b", "1", 2, 5), delOf("a", 3))
	if n := p.tick(5); n != 1 {
		t.Errorf("%d are gone, not 1", n)
	}
	p.hold()
}

// P15.1: a Tick tells of its own time alone: a key that is put behind it, with an expiry ahead of it, is there till the next one.
func TestPutBehindATick(t *testing.T) {
	p := newPair(t, id, gen, some)
	p.tick(100)
	p.must(putOf("a", "1", 1, 5))
	if p.tick(4) != 0 || p.tick(5) != 1 {
		t.Error("it isn't gone just at its own time")
	}
	p.hold()
}

// P15.1: what isn't there has a zero entry.
func TestGetOfNone(t *testing.T) {
	p := filled(t)
	for _, key := range []string{"", "A", "aa", "c", "\x00", "a\x00", strings.Repeat("k", 65), strings.Repeat("k", 10000)} {
		if e, there := p.b.Get(key); there || e != (keydir.Entry{}) {
			t.Errorf("Get(%q) is %+v, %t", key, e, there)
		}
	}
}

// P15.1: entries rise by keys' bytes, in whatever order they were put.
func TestEntriesRise(t *testing.T) {
	want := []string{"\x00", "A", "a", "a\x00", "aa", "b", "z", "\x80", "\xc3\xa9", "\xff", "\xff\xff"}
	for turn := range want {
		p := newPair(t, id, gen, some)
		for i := range want {
			p.must(putOf(want[(turn+7*i)%len(want)], "v", uint64(i), 0))
		}
		var got []string
		for _, e := range p.b.Entries() {
			got = append(got, e.Key)
		}
		if !slices.Equal(got, want) {
			t.Errorf("the keys are %q, not %q", got, want)
		}
	}
}

// P15.2: what is told by Tokens and Meta are records that may be, of this bucket.
func TestToldAreRecords(t *testing.T) {
	p := filled(t)
	want := []api.Record{tokenOf(1, api.CanAll, 11), tokenOf(3, api.CanMint, 33)}
	l := p.b.Tokens()
	if !slices.Equal(l, want) || p.b.Meta() != metaOf(some, 6, 4) {
		t.Errorf("it tells %+v and %+v", p.b.Meta(), l)
	}
	for _, r := range append(l, p.b.Meta()) {
		if !record.May(r) {
			t.Errorf("%+v may not be", r)
		}
	}
}

// P15.3: the charge is that of what is there: not of what was deleted, put anew, gone or revoked, nor of the bucket's own record.
func TestRecharge(t *testing.T) {
	p := filled(t)
	if n := p.b.Charged(); n != 3*27+18+37+36+35+25+39 {
		t.Errorf("the charge is %d", n)
	}
	p.recharge()
	if n := p.b.Charged(); n != 2*27+37+36+39 {
		t.Errorf("charged anew it is %d, not %d", n, 2*27+37+36+39)
	}
	p.recharge()
	p.tick(50)
	p.recharge()
	if n := p.b.Charged(); n != 2*27+37+39 {
		t.Errorf("without what is gone it is %d, not %d", n, 2*27+37+39)
	}
	p.must(putOf("b", "", 9, 0), revokeOf(1))
	if n := p.b.Charged(); n != 2*27+37+39+35+18 {
		t.Errorf("with what is put behind it, it is %d, not %d", n, 2*27+37+39+35+18)
	}
	p.recharge()
	p.must(delOf("b", 10), delOf("d", 11), revokeOf(3))
	p.recharge()
	if n := p.b.Charged(); n != 0 {
		t.Errorf("of nothing it is %d", n)
	}
	p.holdSeq(12, 4)
}

// P15.3: a value costs what its size tells, at each size.
func TestRechargeOfEachSize(t *testing.T) {
	for size := range 1001 {
		p := newPair(t, id, gen, some)
		p.must(putOf("a", "other", 1, 0), putOf("a", strings.Repeat("\xff", size), math.MaxUint64, math.MaxUint64))
		p.recharge()
		if n := p.b.Charged(); n != int64(35+size) {
			t.Errorf("of %d bytes it is %d, not %d", size, n, 35+size)
		}
	}
}

// P15.4: put and deleted, a key leaves keys and bytes as they were, but charges.
func TestPutAndDeleted(t *testing.T) {
	p := filled(t)
	keys, bytes, charged := p.b.Keys(), p.b.Bytes(), p.b.Charged()
	for _, expiry := range versions {
		p.must(putOf("new", "value", 20, expiry), delOf("new", 21))
		charged += 42 + 27
		if p.b.Keys() != keys || p.b.Bytes() != bytes || p.b.Charged() != charged {
			t.Errorf("it has %d keys, %d bytes, a charge of %d, not %d, %d, %d", p.b.Keys(), p.b.Bytes(), p.b.Charged(), keys, bytes, charged)
		}
	}
}

// P15.4: what Meta and Tokens tell, applied to a new bucket, makes the same: also with full tables, and counters at their ends.
func TestMadeAnew(t *testing.T) {
	p := filled(t)
	holdMadeAnew(t, p)
	p.must(tokenOf(math.MaxUint32, 7, math.MaxUint64), putOf("z", "", math.MaxUint64, 0))
	p.holdSeq(math.MaxUint64, math.MaxUint32)
	holdMadeAnew(t, p)
	for n := range uint32(97) {
		p.must(tokenOf(n+4, 1, 1))
	}
	if n := len(p.b.Tokens()); n != 100 {
		t.Fatalf("%d tokens, not 100", n)
	}
	holdMadeAnew(t, p)
	holdMadeAnew(t, newPair(t, 0, 1, api.Quota{}))
	holdMadeAnew(t, newPair(t, 63, math.MaxUint32, api.Quota{Keys: 1 << 40, Bytes: 1 << 40, Budget: 1 << 40}))
}

// R2: what is told is new memory: what is done to it changes no bucket, and what is done to a bucket changes nothing that was told.
func TestToldIsNew(t *testing.T) {
	p := filled(t)
	entries, tokens := p.b.Entries(), p.b.Tokens()
	wereEntries, wereTokens := slices.Clone(entries), slices.Clone(tokens)
	p.must(putOf("a", "other", 30, 0), delOf("b", 31), tokenOf(1, 2, 3), revokeOf(3))
	p.b.Entries()
	p.b.Tokens()
	if !slices.Equal(entries, wereEntries) || !slices.Equal(tokens, wereTokens) {
		t.Errorf("what was told became %v and %v", entries, tokens)
	}
	entries, tokens = p.b.Entries(), p.b.Tokens()
	for i := range entries {
		entries[i] = keydir.Entry{Key: "x", Size: 9}
	}
	for i := range tokens {
		tokens[i] = api.Record{Kind: 9}
	}
	p.hold()
}

// P15.1: what is asked changes nothing.
func TestAskedChangesNothing(t *testing.T) {
	p := filled(t)
	for range 3 {
		p.b.Get("a")
		p.b.Get("x")
		p.b.Entries()
		p.b.Tokens()
		p.b.Meta()
		p.b.Rights(api.Token{Bucket: id, Gen: gen, Serial: 1, Secret: 12})
		p.hold()
	}
}

// P15.1: no bucket has anything of another, also one of the same number and generation.
func TestTwoBuckets(t *testing.T) {
	p, q := filled(t), newPair(t, id, gen, api.Quota{Keys: 1})
	q.hold()
	q.must(putOf("a", "q", 90, 1), tokenOf(1, 2, 90), delOf("b", 91))
	q.tick(1)
	q.recharge()
	p.hold()
	p.must(delOf("a", 6), revokeOf(1))
	q.hold()
}
