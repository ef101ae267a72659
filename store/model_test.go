package store_test

import (
	"fmt"
	"maps"
	"math"
	"math/rand"
	"slices"
	"strings"
	"testing"

	"hassock/api"
	"hassock/disk"
	"hassock/store"
)

// event is a frame of a log, or, without records, keys of a bucket that are gone at a time.
type event struct {
	l   []api.Record
	id  int
	now uint64
}

// tenant is a model of a bucket: its last RBucket, with the counters as they are, and what lives, by the records that put it.
type tenant struct {
	meta    api.Record
	keys    map[string]api.Record
	tokens  map[uint32]api.Record
	charged int64
}

// world is a model of a store, made from the events since a merge.
type world struct {
	tenants map[int]*tenant
	next    map[int]uint32
	budgets int64 // of those that were dropped
	admin   int64
}

// costOf is what a record costs, added by hand.
func costOf(r api.Record) int64 {
	own := []int64{0, bucketCost, dropCost, putCost, delCost, tokenCost, revokeCost, genCost}
	return own[r.Kind] + int64(len(r.Key)+len(r.Val))
}

// reserved is what is reserved of a bucket.
func (x *tenant) reserved() int64 { return max(x.meta.Quota.Budget, x.charged) }

// apply applies one of a bucket's own records.
func (x *tenant) apply(r api.Record) {
	if r.Gen != x.meta.Gen {
		return
	}
	switch r.Kind {
	case api.RPut:
		x.keys[r.Key] = r
		x.meta.Seq = max(x.meta.Seq, r.Version+1)
	case api.RDel:
		delete(x.keys, r.Key)
		x.meta.Seq = max(x.meta.Seq, r.Version+1)
	case api.RToken:
		if _, there := x.tokens[r.Serial]; !there && len(x.tokens) == api.MaxTokens {
			return
		}
		x.tokens[r.Serial] = r
		x.meta.Serial = max(x.meta.Serial, r.Serial+1)
	case api.RRevoke:
		delete(x.tokens, r.Serial)
	}
	x.charged += costOf(r)
}

// apply applies a record.
func (w *world) apply(r api.Record) {
	x := w.tenants[r.Bucket]
	switch r.Kind {
	case api.RBucket:
		w.admin += bucketCost
		if x != nil && x.meta.Gen == r.Gen {
			x.meta = r
			return
		}
		w.tenants[r.Bucket] = &tenant{meta: r, keys: map[string]api.Record{}, tokens: map[uint32]api.Record{}}
		w.next[r.Bucket] = max(w.next[r.Bucket], r.Gen+1)
		w.admin += endCost
	case api.RDrop:
		if x != nil && x.meta.Gen == r.Gen {
			w.budgets += x.reserved()
			delete(w.tenants, r.Bucket)
		}
	case api.RGen:
		w.admin += genCost
		w.next[r.Bucket] = max(w.next[r.Bucket], r.Gen)
	default:
		if x != nil {
			x.apply(r)
		}
	}
}

// tick lets a bucket's keys go.
func (w *world) tick(id int, now uint64) {
	if x := w.tenants[id]; x != nil {
		maps.DeleteFunc(x.keys, func(_ string, r api.Record) bool { return r.Expiry != 0 && r.Expiry <= now })
	}
}

// worldOf is what events make.
func worldOf(l []event) *world {
	w := &world{tenants: map[int]*tenant{}, next: map[int]uint32{}}
	for id := range 64 {
		w.next[id] = 1
	}
	for _, e := range l {
		for _, r := range e.l {
			w.apply(r)
		}
		if e.l == nil {
			w.tick(e.id, e.now)
		}
	}
	return w
}

// sum is what is reserved, without the base, and halved.
func (w *world) sum() int64 {
	n := w.budgets + w.admin
	for _, x := range w.tenants {
		n += x.reserved()
	}
	return n
}

// live are the records that live, as a merge writes them.
func (x *tenant) live() []api.Record {
	l := append([]api.Record{x.meta}, x.allTokens()...)
	for _, key := range slices.Sorted(maps.Keys(x.keys)) {
		l = append(l, x.keys[key])
	}
	return l
}

// allTokens are a bucket's tokens, by serials.
func (x *tenant) allTokens() []api.Record {
	var l []api.Record
	for _, serial := range slices.Sorted(maps.Keys(x.tokens)) {
		l = append(l, x.tokens[serial])
	}
	return l
}

// merged are the events that a merge leaves.
func (w *world) merged() []event {
	var all []event
	for id := range 64 {
		var l []api.Record
		if x := w.tenants[id]; x != nil {
			l = x.live()
		} else if w.next[id] != 1 {
			l = append(l, genOf(id, w.next[id]))
		}
		for _, r := range l {
			all = append(all, event{l: []api.Record{r}})
		}
	}
	return all
}

// picture is a world as picture tells a store.
func (w *world) picture() string {
	text := fmt.Sprint(base+2*w.sum(), slices.Sorted(maps.Keys(w.tenants)))
	for id := range 64 {
		if w.next[id] != 1 {
			text += fmt.Sprintf("\nnext %d: %d", id, w.next[id])
		}
		if x := w.tenants[id]; x != nil {
			text += "\n" + x.picture()
		}
	}
	return text
}

// picture is a bucket's part of it.
func (x *tenant) picture() string {
	bytes := 0
	keys := ""
	for _, key := range slices.Sorted(maps.Keys(x.keys)) {
		r := x.keys[key]
		bytes += len(key) + len(r.Val)
		keys += fmt.Sprintf(" %q: %q %d %d %d", key, r.Val, len(r.Val), r.Version, r.Expiry)
	}
	return fmt.Sprintf("%+v %+v %d %d %d", x.meta, x.allTokens(), len(x.keys), bytes, x.charged) + keys
}

// player plays a script on a store, beside its model.
type player struct {
	t      *testing.T
	random *rand.Rand
	d      *disk.Disk
	c      store.Config
	s      *store.Store
	had    []event // since a merge
}

// any is one of some numbers of buckets; few, so that they meet.
func (p *player) any() int { return []int{0, 1, 7, 63}[p.random.Intn(4)] }

// quota is any quota, mostly one that there is room for.
func (p *player) quota() api.Quota {
	most := 2 * p.c.Capacity
	if p.random.Intn(4) > 0 {
		most = p.c.Capacity / 20
	}
	return budget(int64(p.random.Intn(1 + most)))
}

// records are any ones of a bucket.
func (p *player) records(b api.Record) []api.Record {
	var l []api.Record
	for range 1 + p.random.Intn(5) {
		key := string(rune('a' + p.random.Intn(4)))
		version := b.Seq + uint64(len(l))
		serial := b.Serial + uint32(len(l)) - uint32(p.random.Intn(2))
		switch p.random.Intn(8) {
		case 0, 1, 2, 3:
			val := strings.Repeat(string(rune('0'+p.random.Intn(10))), p.random.Intn(50))
			l = append(l, putOf(b.Bucket, b.Gen, key, val, version, uint64(p.random.Intn(4))))
		case 4, 5:
			l = append(l, delOf(b.Bucket, b.Gen, key, version))
		case 6:
			l = append(l, tokenOf(b.Bucket, b.Gen, serial, 1+p.random.Intn(7), p.random.Uint64()))
		default:
			l = append(l, revokeOf(b.Bucket, b.Gen, uint32(p.random.Intn(9))))
		}
	}
	return l
}

// create creates any bucket: its error, what must be told, and what is appended.
func (p *player) create(w *world) (what string, err error, want api.Code, l []api.Record) {
	id, q, secret := p.any(), p.quota(), p.random.Uint64()
	what = fmt.Sprintf("Create %d, %v", id, q)
	gen := w.next[id]
	switch {
	case w.tenants[id] != nil:
		want = api.ErrTwice
	case gen == math.MaxUint32:
		want = api.ErrLimit
	case base+2*(w.sum()+max(q.Budget, tokenCost)+bucketCost+endCost) > int64(p.c.Capacity):
		want = api.ErrSpace
	}
	k, err := p.s.Create(id, q, secret)
	token := api.Token{Bucket: id, Gen: gen, Serial: 1, Secret: secret}
	if err != nil {
		token = api.Token{}
	}
	if k != token {
		p.t.Fatalf("%s: %v, not %v", what, k, token)
	}
	return what, err, want, []api.Record{bucketOf(id, gen, q, 1, 2), tokenOf(id, gen, 1, 7, secret)}
}

// resize resizes any bucket.
func (p *player) resize(w *world) (what string, err error, want api.Code, l []api.Record) {
	id, q := p.any(), p.quota()
	what = fmt.Sprintf("Resize %d, %v", id, q)
	err = p.s.Resize(id, q)
	x := w.tenants[id]
	if x == nil {
		return what, err, api.ErrNone, nil
	}
	r := x.meta
	r.Quota = q
	if base+2*(w.sum()-x.reserved()+max(q.Budget, x.charged)+bucketCost) > int64(p.c.Capacity) {
		want = api.ErrSpace
	}
	return what, err, want, []api.Record{r}
}

// drop drops any bucket.
func (p *player) drop(w *world) (what string, err error, want api.Code, l []api.Record) {
	id := p.any()
	what = fmt.Sprintf("Drop %d", id)
	err = p.s.Drop(id)
	if x := w.tenants[id]; x != nil {
		return what, err, 0, []api.Record{dropOf(id, x.meta.Gen)}
	}
	return what, err, api.ErrNone, nil
}

// append appends to a bucket, if there is one, not beyond what it may be charged.
func (p *player) append(w *world) (what string, err error, want api.Code, l []api.Record) {
	x := w.tenants[p.any()]
	if x == nil {
		return p.create(w)
	}
	l = p.records(x.meta)
	cost := x.charged
	for _, r := range l {
		cost += costOf(r)
	}
	if cost > x.meta.Quota.Budget {
		return p.drop(w)
	}
	return fmt.Sprintf("Append %+v", l), p.s.Append(l), 0, l
}

// step does any call: its error, what must be told, and the events that come behind it.
func (p *player) step() (what string, err error, want api.Code, behind []event) {
	w := worldOf(p.had)
	var l []api.Record
	switch p.random.Intn(16) {
	case 0, 1:
		what, err, want, l = p.create(w)
	case 2:
		what, err, want, l = p.resize(w)
	case 3:
		what, err, want, l = p.drop(w)
	case 4:
		return "merge", merge(p.s), 0, w.merged()
	case 5:
		e := event{id: p.any(), now: uint64(p.random.Intn(4))}
		if b, there := p.s.Bucket(e.id); there {
			b.Tick(e.now)
		}
		return "Tick", nil, 0, append(slices.Clone(p.had), e)
	default:
		what, err, want, l = p.append(w)
	}
	return what, err, want, append(slices.Clone(p.had), event{l: l})
}

// opened are the events without ticks: of these nothing is left.
func opened(l []event) []event {
	return slices.DeleteFunc(slices.Clone(l), func(e event) bool { return e.l == nil })
}

// reopen brings the disk up and opens the store, with crashes meanwhile; it must have what one of these tells.
func (p *player) reopen(what string, any ...[]event) {
	p.t.Helper()
	for {
		p.d.Open()
		if p.random.Intn(3) > 0 {
			p.d.Plan(p.random.Intn(9), p.random.Intn(40))
		}
		s, err := store.Open(p.d, p.c)
		if err == nil {
			p.d.Open()
			p.s = s
			break
		}
		if err != error(api.ErrDisk) || s != nil {
			p.t.Fatalf("%s: %v, %v", what, s, err)
		}
	}
	told := picture(p.t, p.s)
	for _, l := range any {
		if l = opened(l); worldOf(l).picture() == told {
			p.had = l
			return
		}
	}
	p.t.Fatalf("%s, opened again: %s, not %s", what, told, worldOf(opened(any[0])).picture())
}

// P18.1 to P18.4: any calls, with crashes at any effect, merges and ticks, held against the model; what was refused changes nothing, and opened again a store has the same.
func TestAnyCalls(t *testing.T) {
	for script := range 300 {
		random := rand.New(rand.NewSource(int64(script)))
		c := store.Config{Limit: 100 + random.Intn(400), Capacity: base + random.Intn(30000)}
		p := &player{t: t, random: random, d: disk.New(c.Capacity), c: c}
		p.reopen("at first", nil)
		for step := range 80 {
			planned := random.Intn(5) == 0
			if planned {
				p.d.Plan(random.Intn(12), random.Intn(60))
			}
			what, err, want, behind := p.step()
			what = fmt.Sprintf("script %d, step %d, %s", script, step, what)
			switch {
			case p.d.Down() && want == 0:
				is(t, what, err, api.ErrDisk)
				p.reopen(what, p.had, behind)
			case want == 0:
				is(t, what, err, 0)
				p.had = behind
			default:
				is(t, what, err, want)
			}
			p.d.Open()
			if random.Intn(9) == 0 {
				p.reopen(what, p.had)
			}
			if got, want := picture(t, p.s), worldOf(p.had).picture(); got != want {
				t.Fatalf("%s: %s, not %s", what, got, want)
			}
			if p.s.Log().Bytes() > p.c.Capacity/2 || t.Failed() {
				t.Fatalf("%s: %d bytes", what, p.s.Log().Bytes())
			}
		}
	}
}

// P18.4: of whatever records of any numbers and generations a log has, a store is as the model tells it, in whatever frames they lie.
func TestAnyLogs(t *testing.T) {
	for script := range 2000 {
		random := rand.New(rand.NewSource(int64(script)))
		d := disk.New(room)
		s := open(t, d, wide)
		var had []event
		for range 1 + random.Intn(9) {
			var l []api.Record
			for range 1 + random.Intn(4) {
				l = append(l, anyRecord(random))
			}
			done(t, s.Append(l))
			had = append(had, event{l: l})
			if replaces(had) {
				had = nil
				break
			}
			if got, want := picture(t, s), worldOf(had).picture(); got != want {
				t.Fatalf("script %d, %+v: %s, not %s", script, had, got, want)
			}
		}
		if had == nil {
			continue
		}
		if got, want := picture(t, open(t, d, wide)), worldOf(had).picture(); got != want {
			t.Fatalf("script %d, %+v: %s, not %s", script, had, got, want)
		}
	}
}

// anyRecord is one of two buckets and few generations.
func anyRecord(random *rand.Rand) api.Record {
	id, gen := 3+random.Intn(2), uint32(1+random.Intn(3))
	key := string(rune('a' + random.Intn(2)))
	switch random.Intn(12) {
	case 0, 1, 2:
		return bucketOf(id, gen, budget(int64(random.Intn(200))), uint64(1+random.Intn(9)), uint32(1+random.Intn(9)))
	case 3, 4:
		return dropOf(id, gen)
	case 5:
		return genOf(id, gen+uint32(random.Intn(3)))
	case 6, 7, 8:
		return putOf(id, gen, key, strings.Repeat("v", random.Intn(90)), uint64(random.Intn(12)), 0)
	case 9:
		return delOf(id, gen, key, uint64(random.Intn(12)))
	case 10:
		return tokenOf(id, gen, uint32(random.Intn(12)), 1+random.Intn(7), 1)
	}
	return revokeOf(id, gen, uint32(random.Intn(12)))
}

// replaces tells whether a bucket is put in place of another one that wasn't dropped, of which the chapter tells no ledger.
func replaces(l []event) bool {
	lives := map[int]uint32{}
	for _, e := range l {
		for _, r := range e.l {
			gen, there := lives[r.Bucket]
			switch {
			case r.Kind == api.RBucket && there && gen != r.Gen:
				return true
			case r.Kind == api.RBucket:
				lives[r.Bucket] = r.Gen
			case r.Kind == api.RDrop && gen == r.Gen:
				delete(lives, r.Bucket)
			}
		}
	}
	return false
}
