package plan_test

import (
	"fmt"
	"math"
	"math/rand"
	"slices"
	"testing"

	"hassock/api"
	"hassock/bucket"
	"hassock/command"
	"hassock/plan"
)

// modelWrite is a plan by the chapter's words, written apart: each op's record is applied to the bucket, which must be one made for this.
func modelWrite(b *bucket.Bucket, q command.Request, now uint64) ([]api.Record, uint64, api.Code) {
	if len(q.Ops) == 0 || q.Tag != command.Write && q.Tag != command.Del && q.Tag != command.Batch {
		return nil, 0, api.ErrArg
	}
	for _, op := range q.Ops {
		if len(op.Key) == 0 || len(op.Key) > 64 || len(op.Val) > 1000 && !op.Del {
			return nil, 0, api.ErrArg
		}
	}
	var l []api.Record
	puts := false
	for _, op := range q.Ops {
		if code := modelError(b, op); code != 0 {
			return nil, 0, code
		}
		r := putOf(op.Key, op.Val, b.Meta().Seq, modelExpiry(now, op.TTL))
		if op.Del {
			r = delOf(op.Key, b.Meta().Seq)
		}
		puts = puts || !op.Del
		b.Apply(r, api.Spot{})
		l = append(l, r)
	}
	most := b.Meta().Quota
	switch {
	case puts && b.Keys() > most.Keys:
		return nil, 0, api.ErrKeys
	case puts && b.Bytes() > most.Bytes:
		return nil, 0, api.ErrBytes
	case b.Charged() > most.Budget:
		return nil, 0, api.ErrBudget
	}
	return l, b.Meta().Seq - 1, 0
}

// modelError is an op's own error, of a bucket on which those ahead of it were done.
func modelError(b *bucket.Bucket, op command.Op) api.Code {
	there, version := false, uint64(0)
	for _, e := range b.Entries() {
		if e.Key == op.Key {
			there, version = true, e.Version
		}
	}
	if op.Cond != 0 && op.Cond != version {
		return api.ErrVersion
	}
	if op.Del && !there {
		return api.ErrNone
	}
	if b.Meta().Seq == math.MaxUint64 {
		return api.ErrLimit
	}
	return 0
}

// modelExpiry goes by half of the numbers, whose sum is never too much.
func modelExpiry(now, ttl uint64) uint64 {
	if ttl == 0 {
		return 0
	}
	if now/2+ttl/2+now%2*(ttl%2) >= 1<<63 {
		return math.MaxUint64
	}
	return now + ttl
}

// chances are what a random script draws from.
type chances struct {
	r    *rand.Rand
	keys int
}

func (c chances) key() string { return fmt.Sprint("k", c.r.Intn(c.keys)) }

// op is one that mostly may be, with a condition that may well hold.
func (c chances) op(b *bucket.Bucket) command.Op {
	op := command.Op{Key: c.key(), Del: c.r.Intn(3) == 0}
	if !op.Del {
		op.Val = text(c.r.Intn(20))
		if c.r.Intn(3) == 0 {
			op.TTL = uint64(c.r.Intn(30))
		}
	}
	switch c.r.Intn(40) {
	case 0:
		op.Key = text([]int{0, 64, 65}[c.r.Intn(3)])
	case 1:
		op.Val = text(1000 + c.r.Intn(2))
	case 2:
		op.Cond = c.r.Uint64()
	case 3, 4, 5, 6, 7:
		op.Cond = b.Meta().Seq - uint64(c.r.Intn(4)) + 2
	case 8, 9, 10, 11, 12:
		e, _ := b.Get(op.Key)
		op.Cond = e.Version
	}
	return op
}

// request is one that mostly may be.
func (c chances) request(b *bucket.Bucket) command.Request {
	q := command.Request{Tag: command.Batch}
	many := c.r.Intn(6)
	switch c.r.Intn(30) {
	case 0:
		q.Tag = c.r.Intn(15)
	case 1:
		many = c.r.Intn(40)
	case 2, 3, 4, 5, 6, 7, 8, 9:
		q.Tag, many = []int{command.Write, command.Del}[c.r.Intn(2)], 1
	}
	for range many {
		q.Ops = append(q.Ops, c.op(b))
	}
	return q
}

// step is a step of a random script that makes the bucket another one, or another time.
func (c chances) step(p *past, b *bucket.Bucket, now uint64) uint64 {
	m := b.Meta()
	switch c.r.Intn(40) {
	case 0:
		p.apply(tokenOf(m.Serial, 1+c.r.Intn(7), c.r.Uint64()))
	case 1:
		p.steps = append(p.steps, func(b *bucket.Bucket) { b.Recharge() })
	case 2:
		near := quotaOf(b.Keys()+c.r.Int63n(3), b.Bytes()+c.r.Int63n(40), b.Charged()+c.r.Int63n(400))
		p.apply(metaOf(near, m.Seq, m.Serial))
	case 3:
		p.apply(metaOf(quotaOf(int64(c.keys), 1000, 1<<40), m.Seq, m.Serial))
	case 4:
		p.apply(metaOf(quotaOf(c.r.Int63n(4), c.r.Int63n(40), 1<<40), m.Seq, m.Serial))
	case 5, 6, 7, 8:
		now += uint64(c.r.Intn(12))
		p.tick(now)
	}
	return now
}

// P17.2, P17.4, P17.5: random writes at random times are what the model tells, and what was planned is applied.
func TestRandomWrites(t *testing.T) {
	r := rand.New(rand.NewSource(17))
	told := map[api.Code]int{}
	for _, c := range []chances{{r, 2}, {r, 4}, {r, 12}, {r, 50}} {
		for range 40 {
			p, now := with(quotaOf(9, 1000, 1<<40)), uint64(0)
			if r.Intn(8) == 0 {
				p.apply(metaOf(quotaOf(9, 1000, 1<<40), math.MaxUint64-uint64(r.Intn(60)), 1))
			}
			for range 80 {
				b := p.make()
				q := c.request(b)
				want, version, code := modelWrite(p.make(), q, now)
				p.write(t, q, now, want, version, code)
				if told[code]++; code == 0 {
					p.apply(want...)
					holdWithin(t, p.make(), q)
				}
				now = c.step(p, p.make(), now)
			}
		}
	}
	for _, code := range []api.Code{0, api.ErrArg, api.ErrNone, api.ErrKeys, api.ErrBytes, api.ErrBudget, api.ErrVersion, api.ErrLimit} {
		if told[code] < 50 {
			t.Errorf("code %d was told %d times only", code, told[code])
		}
	}
}

// holdWithin holds a bucket on which a plan was applied within its quota, if there is a put in it; else the budget alone.
func holdWithin(t *testing.T, b *bucket.Bucket, q command.Request) {
	t.Helper()
	most := b.Meta().Quota
	isPut := func(op command.Op) bool { return !op.Del }
	if slices.ContainsFunc(q.Ops, isPut) && (b.Keys() > most.Keys || b.Bytes() > most.Bytes) {
		t.Fatalf("behind %s there are %d keys and %d bytes, of %+v", short(q), b.Keys(), b.Bytes(), most)
	}
	if b.Charged() > most.Budget {
		t.Fatalf("behind %s it is charged %d, of %+v", short(q), b.Charged(), most)
	}
}

// P17.3: random tokens come and go by plans alone, within the budget.
func TestRandomTokens(t *testing.T) {
	r := rand.New(rand.NewSource(18))
	for range 6 {
		budget := 3000 + r.Int63n(9000)
		p := with(quotaOf(0, 0, budget))
		var live []uint32
		next, spent := uint32(1), int64(0)
		for range 500 {
			if r.Intn(4) > 0 {
				rights, own, secret := r.Intn(9), r.Intn(8), r.Uint64()
				want, code := tokenOf(next, rights, secret), api.Code(0)
				switch {
				case rights == 0 || rights > 7 || rights|own != own:
					want, code = api.Record{}, api.ErrDenied
				case len(live) == 100:
					want, code = api.Record{}, api.ErrLarge
				case spent+tokenCost > budget:
					want, code = api.Record{}, api.ErrBudget
				default:
					live, next, spent = append(live, next), next+1, spent+tokenCost
				}
				p.mint(t, rights, own, secret, want, code)
				if code == 0 {
					p.apply(want)
				}
				continue
			}
			serial := uint32(r.Intn(int(next) + 2))
			at := slices.Index(live, serial)
			switch {
			case at < 0:
				p.revoke(t, serial, api.Record{}, api.ErrNone)
			case spent+revokeCost > budget:
				p.revoke(t, serial, api.Record{}, api.ErrBudget)
			default:
				p.revoke(t, serial, revokeOf(serial), 0)
				p.apply(revokeOf(serial))
				live, spent = slices.Delete(live, at, at+1), spent+revokeCost
			}
		}
	}
}

// P1: any arguments.
func TestAnyArguments(t *testing.T) {
	r := rand.New(rand.NewSource(19))
	numbers := []uint64{0, 1, 2, 1 << 31, 1 << 32, 1 << 63, math.MaxUint64 - 1, math.MaxUint64}
	any64 := func() uint64 { return numbers[r.Intn(len(numbers))] }
	for range 20000 {
		b := bucket.New(int(any64()), uint32(any64()), quotaOf(int64(any64()), int64(any64()), int64(any64())))
		q := command.Request{Tag: 5 + r.Intn(5), Rights: int(any64()), Serial: uint32(any64())}
		for range r.Intn(4) {
			q.Ops = append(q.Ops, command.Op{Del: r.Intn(2) == 0, Key: text(r.Intn(70)), Val: text(r.Intn(1100)), Cond: any64() * uint64(r.Intn(2)), TTL: any64()})
		}
		if l, v, err := plan.Write(b, q, any64()); err != nil && (len(l) != 0 || v != 0) {
			t.Fatalf("beside %v there are %s and %d", err, short(l), v)
		}
		if x, err := plan.Mint(b, q, int(any64()), any64()); err != nil && x != (api.Record{}) {
			t.Fatalf("beside %v there is %+v", err, x)
		}
		if x, err := plan.Revoke(b, q); err != nil && x != (api.Record{}) {
			t.Fatalf("beside %v there is %+v", err, x)
		}
	}
}
