package bucket_test

import (
	"fmt"
	"math"
	"math/rand"
	"slices"
	"strings"
	"testing"

	"hassock/api"
	"hassock/bucket"
	"hassock/keydir"
)

// model is what a bucket is, written apart: lists in which all are looked at, and costs by the bytes that layers 5 and 6 tell.
type model struct {
	id      int
	gen     uint32
	quota   api.Quota
	seq     uint64
	serial  uint32
	keys    []keydir.Entry // in any order
	tokens  []api.Record   // in any order
	charged int64
}

func newModel(id int, gen uint32, q api.Quota) *model {
	return &model{id: id, gen: gen, quota: q, seq: 1, serial: 1}
}

// cost is how many bytes a frame has that holds a record alone: eight of the frame, six that each record has, and its own.
func cost(r api.Record) int64 {
	own := map[int]int{
		api.RPut:    8 + 8 + 2 + len(r.Key) + 2 + len(r.Val),
		api.RDel:    8 + 2 + len(r.Key),
		api.RToken:  4 + 1 + 8,
		api.RRevoke: 4,
	}
	return int64(8 + 6 + own[r.Kind])
}

// apply takes only records that may be.
func (m *model) apply(r api.Record, s api.Spot) bool {
	if r.Bucket != m.id || r.Gen != m.gen {
		return false
	}
	switch r.Kind {
	case api.RBucket:
		m.quota, m.seq, m.serial = r.Quota, r.Seq, r.Serial
		return true
	case api.RPut:
		m.remove(r.Key)
		m.keys = append(m.keys, keydir.Entry{Key: r.Key, Spot: s, Version: r.Version, Expiry: r.Expiry, Size: len(r.Val)})
		m.goBehind(r.Version)
	case api.RDel:
		m.remove(r.Key)
		m.goBehind(r.Version)
	case api.RToken:
		kept := slices.DeleteFunc(slices.Clone(m.tokens), func(x api.Record) bool { return x.Serial == r.Serial })
		if len(kept) == 100 {
			return false
		}
		m.tokens = append(kept, r)
		if m.serial <= r.Serial && m.serial < math.MaxUint32 {
			m.serial = r.Serial
			if r.Serial < math.MaxUint32 {
				m.serial++
			}
		}
	case api.RRevoke:
		m.tokens = slices.DeleteFunc(m.tokens, func(x api.Record) bool { return x.Serial == r.Serial })
	default:
		return false
	}
	m.charged += cost(r)
	return true
}

func (m *model) remove(key string) {
	m.keys = slices.DeleteFunc(m.keys, func(e keydir.Entry) bool { return e.Key == key })
}

func (m *model) goBehind(version uint64) {
	if m.seq > version {
		return
	}
	m.seq = version
	if version < math.MaxUint64 {
		m.seq++
	}
}

func (m *model) tick(now uint64) int {
	were := len(m.keys)
	m.keys = slices.DeleteFunc(m.keys, func(e keydir.Entry) bool { return e.Expiry != 0 && e.Expiry <= now })
	return were - len(m.keys)
}

func (m *model) get(key string) (keydir.Entry, bool) {
	for _, e := range m.keys {
		if e.Key == key {
			return e, true
		}
	}
	return keydir.Entry{}, false
}

func (m *model) entries() []keydir.Entry {
	l := slices.Clone(m.keys)
	slices.SortFunc(l, func(a, b keydir.Entry) int { return strings.Compare(a.Key, b.Key) })
	return l
}

func (m *model) bytes() int64 {
	n := 0
	for _, e := range m.keys {
		n += len(e.Key) + e.Size
	}
	return int64(n)
}

func (m *model) rights(x api.Token) int {
	for _, r := range m.tokens {
		if (api.Token{Bucket: m.id, Gen: m.gen, Serial: r.Serial, Secret: r.Secret}) == x {
			return r.Rights
		}
	}
	return 0
}

func (m *model) allTokens() []api.Record {
	l := slices.Clone(m.tokens)
	slices.SortFunc(l, func(a, b api.Record) int {
		if a.Serial < b.Serial {
			return -1
		}
		return 1
	})
	return l
}

func (m *model) meta() api.Record {
	return api.Record{Kind: 1, Bucket: m.id, Gen: m.gen, Quota: m.quota, Seq: m.seq, Serial: m.serial}
}

func (m *model) recharge() {
	m.charged = 0
	for _, e := range m.keys {
		m.charged += cost(api.Record{Kind: api.RPut, Key: e.Key, Val: strings.Repeat("x", e.Size)})
	}
	for _, r := range m.tokens {
		m.charged += cost(r)
	}
}

// pair is a bucket and its model: what is done is done to both.
type pair struct {
	t *testing.T
	b *bucket.Bucket
	m *model
}

func newPair(t *testing.T, id int, gen uint32, q api.Quota) pair {
	t.Helper()
	p := pair{t, bucket.New(id, gen, q), newModel(id, gen, q)}
	p.hold()
	return p
}

// apply applies a record that may be, and holds what is answered.
func (p pair) apply(r api.Record, s api.Spot) bool {
	p.t.Helper()
	got, want := p.b.Apply(r, s), p.m.apply(r, s)
	if got != want {
		p.t.Fatalf("Apply of %+v is %t", r, got)
	}
	p.holdSums()
	return got
}

// passBy applies a record that must be passed by, and holds that nothing changes.
func (p pair) passBy(what string, r api.Record) {
	p.t.Helper()
	if p.b.Apply(r, api.Spot{Seg: 9, At: 9, Len: 9}) {
		p.t.Errorf("%s: %+v is applied", what, r)
	}
	p.hold()
}

func (p pair) tick(now uint64) int {
	p.t.Helper()
	got, want := p.b.Tick(now), p.m.tick(now)
	if got != want {
		p.t.Fatalf("Tick(%d) is %d, not %d", now, got, want)
	}
	p.holdSums()
	return got
}

func (p pair) recharge() {
	p.t.Helper()
	p.b.Recharge()
	p.m.recharge()
	p.hold()
}

// holdSums holds what is told by numbers, and the meta record.
func (p pair) holdSums() {
	p.t.Helper()
	if n := p.b.Keys(); n != int64(len(p.m.keys)) {
		p.t.Fatalf("Keys is %d, not %d", n, len(p.m.keys))
	}
	if n := p.b.Bytes(); n != p.m.bytes() {
		p.t.Fatalf("Bytes is %d, not %d", n, p.m.bytes())
	}
	if n := p.b.Charged(); n != p.m.charged {
		p.t.Fatalf("Charged is %d, not %d", n, p.m.charged)
	}
	if r := p.b.Meta(); r != p.m.meta() {
		p.t.Fatalf("Meta is %+v, not %+v", r, p.m.meta())
	}
}

// hold holds all that a bucket tells against its model.
func (p pair) hold() {
	p.t.Helper()
	p.holdSums()
	if l := p.b.Entries(); !slices.Equal(l, p.m.entries()) {
		p.t.Fatalf("Entries are %+v, not %+v", l, p.m.entries())
	}
	if l := p.b.Tokens(); !slices.Equal(l, p.m.allTokens()) {
		p.t.Fatalf("Tokens are %+v, not %+v", l, p.m.allTokens())
	}
	for _, e := range p.m.keys {
		p.holdGet(e.Key)
	}
	for _, r := range p.m.tokens {
		p.holdRights(api.Token{Bucket: p.m.id, Gen: p.m.gen, Serial: r.Serial, Secret: r.Secret})
	}
}

func (p pair) holdGet(key string) {
	p.t.Helper()
	e, there := p.b.Get(key)
	if want, is := p.m.get(key); e != want || there != is {
		p.t.Fatalf("Get(%q) is %+v, %t, not %+v, %t", key, e, there, want, is)
	}
}

func (p pair) holdRights(x api.Token) {
	p.t.Helper()
	if r := p.b.Rights(x); r != p.m.rights(x) {
		p.t.Fatalf("Rights(%+v) are %d, not %d", x, r, p.m.rights(x))
	}
}

// chances are what a random script draws from.
type chances struct {
	r                     *rand.Rand
	keys, serials, expiry int
}

// record is one that may be, mostly of the model's number and generation.
func (c chances) record(m *model) api.Record {
	r := api.Record{Bucket: m.id, Gen: m.gen}
	if c.r.Intn(15) == 0 {
		r.Bucket = c.r.Intn(api.MaxBucket)
	}
	if c.r.Intn(15) == 0 {
		r.Gen = 1 + uint32(c.r.Intn(4))
	}
	switch c.r.Intn(12) {
	case 0:
		r.Kind, r.Seq, r.Serial = api.RBucket, c.number(m.seq), uint32(c.number(uint64(m.serial)))
		r.Quota = api.Quota{Keys: c.r.Int63n(100), Bytes: c.r.Int63n(1 << 40), Budget: 1 << 40}
	case 1:
		r.Kind = []int{api.RDrop, api.RGen}[c.r.Intn(2)]
	case 2, 3:
		r.Kind, r.Serial, r.Rights, r.Secret = api.RToken, uint32(c.r.Intn(c.serials)), 1+c.r.Intn(7), uint64(c.r.Intn(3))
	case 4:
		r.Kind, r.Serial = api.RRevoke, uint32(c.r.Intn(c.serials))
	case 5, 6:
		r.Kind, r.Key, r.Version = api.RDel, c.key(), c.number(m.seq)
	default:
		r.Kind, r.Key, r.Version = api.RPut, c.key(), c.number(m.seq)
		r.Val = strings.Repeat("v", c.r.Intn(30))
		if c.r.Intn(4) > 0 {
			r.Expiry = uint64(c.r.Intn(c.expiry))
		}
	}
	return r
}

// number is one near another, or few, or seldom at its end.
func (c chances) number(near uint64) uint64 {
	switch c.r.Intn(40) {
	case 0:
		return uint64(c.r.Intn(3))
	case 1:
		return math.MaxUint64 - uint64(c.r.Intn(2))
	}
	return near + uint64(c.r.Intn(4)) - 1
}

func (c chances) key() string { return fmt.Sprint("k", c.r.Intn(c.keys)) }

// P15.1 to P15.3: of few and many keys and serials, with ends near and far.
func TestRandomScripts(t *testing.T) {
	r := rand.New(rand.NewSource(15))
	for _, c := range []chances{{r, 1, 2, 3}, {r, 3, 5, 8}, {r, 10, 120, 40}, {r, 40, 300, 500}, {r, 300, 10, 60}} {
		for range 10 {
			p := newPair(t, r.Intn(api.MaxBucket), 1+uint32(r.Intn(3)), api.Quota{Keys: 5})
			now := 0
			for range 1000 {
				p.apply(c.record(p.m), api.Spot{Seg: r.Intn(9), At: r.Intn(1000), Len: r.Intn(1000)})
				p.holdGet(c.key())
				p.holdRights(api.Token{
					Bucket: p.m.id + r.Intn(20)/19, Gen: p.m.gen + uint32(r.Intn(20)/19),
					Serial: uint32(r.Intn(c.serials)), Secret: uint64(r.Intn(3)),
				})
				switch r.Intn(50) {
				case 0:
					p.recharge()
				case 1, 2, 3, 4:
					now = (now + r.Intn(c.expiry/3+1)) % c.expiry
					p.tick(uint64(now))
				case 5:
					p.hold()
				}
			}
			p.hold()
			p.tick(math.MaxUint64)
			p.hold()
		}
	}
}

// P15.4: what is told of a bucket, tokens first or last, makes the same; its next serial is behind all serials here.
func TestRandomBucketsMadeAnew(t *testing.T) {
	r := rand.New(rand.NewSource(16))
	for range 200 {
		p := newPair(t, 7, 3, api.Quota{Bytes: r.Int63n(1 << 40)})
		for range r.Intn(250) {
			serial := p.m.serial
			if r.Intn(2) == 0 {
				serial = uint32(r.Intn(200))
			}
			p.apply(api.Record{Kind: api.RToken, Bucket: 7, Gen: 3, Serial: serial, Rights: 1 + r.Intn(7), Secret: r.Uint64()}, api.Spot{})
			p.apply(api.Record{Kind: api.RDel, Bucket: 7, Gen: 3, Key: "k", Version: r.Uint64() >> r.Intn(64)}, api.Spot{})
			if r.Intn(4) == 0 {
				p.apply(api.Record{Kind: api.RRevoke, Bucket: 7, Gen: 3, Serial: uint32(r.Intn(200))}, api.Spot{})
			}
		}
		holdMadeAnew(t, p)
	}
}

// holdMadeAnew holds that a new bucket tells the same meta record and tokens, once it was told these.
func holdMadeAnew(t *testing.T, p pair) {
	t.Helper()
	for _, l := range [][]api.Record{
		append([]api.Record{p.b.Meta()}, p.b.Tokens()...),
		append(p.b.Tokens(), p.b.Meta()),
	} {
		b := bucket.New(p.m.id, p.m.gen, api.Quota{Keys: 77})
		for _, x := range l {
			if !b.Apply(x, api.Spot{}) {
				t.Fatalf("%+v isn't applied", x)
			}
		}
		if b.Meta() != p.b.Meta() || !slices.Equal(b.Tokens(), p.b.Tokens()) {
			t.Fatalf("made anew it is %+v with %+v, not %+v with %+v", b.Meta(), b.Tokens(), p.b.Meta(), p.b.Tokens())
		}
		for _, x := range p.b.Tokens() {
			y := api.Token{Bucket: p.m.id, Gen: p.m.gen, Serial: x.Serial, Secret: x.Secret}
			if r := b.Rights(y); r != x.Rights {
				t.Fatalf("made anew Rights(%+v) are %d, not %d", y, r, x.Rights)
			}
		}
	}
}
