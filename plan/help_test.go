package plan_test

import (
	"fmt"
	"reflect"
	"slices"
	"strings"
	"testing"

	"hassock/api"
	"hassock/bucket"
	"hassock/command"
	"hassock/plan"
)

// The bucket that most tests have.
const (
	id  = 4
	gen = 2
)

// What a record costs, beside its key's and value's bytes: eight of the frame, six that each record has, and its own.
const (
	putCost    = 8 + 6 + 8 + 8 + 2 + 2
	delCost    = 8 + 6 + 8 + 2
	tokenCost  = 8 + 6 + 4 + 1 + 8
	revokeCost = 8 + 6 + 4
)

// much is a quota that nothing here comes near to.
var much = api.Quota{Keys: 1 << 40, Bytes: 1 << 40, Budget: 1 << 40}

func putOf(key, val string, version, expiry uint64) api.Record {
	return api.Record{Kind: 3, Bucket: id, Gen: gen, Key: key, Val: val, Version: version, Expiry: expiry}
}

func delOf(key string, version uint64) api.Record {
	return api.Record{Kind: 4, Bucket: id, Gen: gen, Key: key, Version: version}
}

func tokenOf(serial uint32, rights int, secret uint64) api.Record {
	return api.Record{Kind: 5, Bucket: id, Gen: gen, Serial: serial, Rights: rights, Secret: secret}
}

func revokeOf(serial uint32) api.Record {
	return api.Record{Kind: 6, Bucket: id, Gen: gen, Serial: serial}
}

func metaOf(q api.Quota, seq uint64, serial uint32) api.Record {
	return api.Record{Kind: 1, Bucket: id, Gen: gen, Quota: q, Seq: seq, Serial: serial}
}

func put(key, val string) command.Op { return command.Op{Key: key, Val: val} }

func del(key string) command.Op { return command.Op{Del: true, Key: key} }

// on is an op on condition of a version.
func on(version uint64, op command.Op) command.Op {
	op.Cond = version
	return op
}

// ending is an op with a TTL.
func ending(ttl uint64, op command.Op) command.Op {
	op.TTL = ttl
	return op
}

func batch(l ...command.Op) command.Request { return command.Request{Tag: command.Batch, Ops: l} }

// mint is a request for a token, and revoke one that it be gone, with something else in each field that isn't asked for.
func mint(rights int) command.Request {
	return command.Request{Tag: command.Mint, Token: api.Token{Bucket: 9, Gen: 8, Serial: 77, Secret: 6}, Rights: rights, Serial: 55}
}

func revoke(serial uint32) command.Request {
	return command.Request{Tag: command.Revoke, Token: api.Token{Bucket: 9, Gen: 8, Serial: 77, Secret: 6}, Rights: 1, Serial: serial}
}

// past is what became of a bucket, from its making on, so that it can be made once more.
type past struct {
	id    int
	gen   uint32
	quota api.Quota
	steps []func(*bucket.Bucket)
}

// with is a bucket's past of records that were applied; its charge is 0, unless more are applied.
func with(q api.Quota, l ...api.Record) *past {
	p := &past{id: id, gen: gen, quota: q}
	p.apply(l...)
	return p
}

// apply applies records.
func (p *past) apply(l ...api.Record) {
	p.steps = append(p.steps, func(b *bucket.Bucket) {
		for i, r := range l {
			if !b.Apply(r, api.Spot{Seg: 1, At: i, Len: 9}) {
				panic(fmt.Sprintf("%+v isn't applied", r))
			}
		}
	})
}

// tick lets keys go.
func (p *past) tick(now uint64) {
	p.steps = append(p.steps, func(b *bucket.Bucket) { b.Tick(now) })
}

// make makes the bucket.
func (p *past) make() *bucket.Bucket {
	b := bucket.New(p.id, p.gen, p.quota)
	for _, step := range p.steps {
		step(b)
	}
	return b
}

// holdKept holds that a bucket is as its past made it, with all that it keeps.
func (p *past) holdKept(t *testing.T, b *bucket.Bucket) {
	t.Helper()
	if !reflect.DeepEqual(b, p.make()) {
		t.Fatalf("the bucket became %+v with %+v and %+v", b.Meta(), b.Entries(), b.Tokens())
	}
}

// write holds what Write tells, and that neither the bucket nor the request is changed.
func (p *past) write(t *testing.T, q command.Request, now uint64, want []api.Record, version uint64, code api.Code) {
	t.Helper()
	b, ops := p.make(), slices.Clone(q.Ops)
	l, v, err := plan.Write(b, q, now)
	if itself(err) != code || v != version || !slices.Equal(l, want) {
		t.Fatalf("Write of %s at %d is %s, %d, %v, not %s, %d, %d", short(q), now, short(l), v, err, short(want), version, code)
	}
	p.holdKept(t, b)
	if !slices.Equal(q.Ops, ops) {
		t.Fatalf("the ops %s became %s", short(ops), short(q.Ops))
	}
}

// writes holds that records are planned.
func (p *past) writes(t *testing.T, q command.Request, want ...api.Record) {
	t.Helper()
	p.write(t, q, 0, want, want[len(want)-1].Version, 0)
}

// refuses holds that a write isn't planned.
func (p *past) refuses(t *testing.T, q command.Request, code api.Code) {
	t.Helper()
	p.write(t, q, 0, nil, 0, code)
}

// takes holds that a write is planned, whatever its records are.
func (p *past) takes(t *testing.T, q command.Request) {
	t.Helper()
	if l, v, err := plan.Write(p.make(), q, 0); err != nil || len(l) != len(q.Ops) || v != l[len(l)-1].Version {
		t.Fatalf("Write of %s is %s, %d, %v", short(q), short(l), v, err)
	}
}

// mint holds what Mint tells: a record, or a zero one and a code.
func (p *past) mint(t *testing.T, rights, own int, secret uint64, want api.Record, code api.Code) {
	t.Helper()
	b := p.make()
	if r, err := plan.Mint(b, mint(rights), own, secret); itself(err) != code || r != want {
		t.Fatalf("Mint of %d by one with %d is %+v, %v, not %+v, %d", rights, own, r, err, want, code)
	}
	p.holdKept(t, b)
}

// revoke holds what Revoke tells likewise.
func (p *past) revoke(t *testing.T, serial uint32, want api.Record, code api.Code) {
	t.Helper()
	b := p.make()
	if r, err := plan.Revoke(b, revoke(serial)); itself(err) != code || r != want {
		t.Fatalf("Revoke of %d is %+v, %v, not %+v, %d", serial, r, err, want, code)
	}
	p.holdKept(t, b)
}

// itself is a code that was told itself; 0 is no error, -1 another one.
func itself(err error) api.Code {
	if err == nil {
		return 0
	}
	if code, is := err.(api.Code); is {
		return code
	}
	return -1
}

// short tells of a thing, cut off.
func short(x any) string { return fmt.Sprintf("%.300s", fmt.Sprintf("%+v", x)) }

// text is a text of so many bytes.
func text(length int) string { return strings.Repeat("é", length/2) + strings.Repeat("x", length%2) }
