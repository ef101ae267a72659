package plan_test

import (
	"fmt"
	"math"
	"testing"

	"hassock/api"
	"hassock/bucket"
	"hassock/command"
	"hassock/plan"
)

// P17.2: the chapter's example.
func TestExample(t *testing.T) {
	p := with(much, metaOf(much, 5, 1))
	p.writes(t, command.Request{Tag: command.Write, Ops: []command.Op{put("a", "")}}, putOf("a", "", 5, 0))
}

// P17.1
func TestNeed(t *testing.T) {
	needs := map[int]int{6: 2, 7: 1, 8: 2, 9: 2, 10: 1, 11: 1, 12: 4, 13: 4}
	for tag := -300; tag <= 300; tag++ {
		if n := plan.Need(tag); n != needs[tag] {
			t.Errorf("Need(%d) is %d, not %d", tag, n, needs[tag])
		}
	}
	for _, tag := range []int{math.MinInt, math.MinInt + 6, 1<<16 + 7, 1<<32 + 12, math.MaxInt} {
		if n := plan.Need(tag); n != 0 {
			t.Errorf("Need(%d) is %d, not 0", tag, n)
		}
	}
}

// P17.2: each field of a put's record, and of a deletion's.
func TestRecords(t *testing.T) {
	for _, id := range []int{0, 1, 62, 63} {
		for _, gen := range []uint32{1, 3, math.MaxUint32} {
			p := &past{id: id, gen: gen, quota: much}
			p.apply(api.Record{Kind: api.RPut, Bucket: id, Gen: gen, Key: "b", Version: 8})
			q := batch(ending(5, put("a", "val")), del("b"))
			q.Token, q.Admin, q.Bucket, q.Serial = api.Token{Bucket: 9, Gen: 8, Serial: 7, Secret: 6}, 5, 9, 3
			q.Quota, q.After, q.First, q.Count, q.Rights = api.Quota{Keys: 1}, "a", true, 2, 1
			p.write(t, q, 30, []api.Record{
				{Kind: 3, Bucket: id, Gen: gen, Key: "a", Val: "val", Version: 9, Expiry: 35},
				{Kind: 4, Bucket: id, Gen: gen, Key: "b", Version: 10},
			}, 10, 0)
		}
	}
}

// P17.2: each of the three tags, with puts and deletions; any other one is ErrArg.
func TestTagsOfWrites(t *testing.T) {
	p := with(much, putOf("b", "", 1, 0))
	for tag := -20; tag < 300; tag++ {
		for _, op := range []command.Op{put("a", "1"), del("b")} {
			q := command.Request{Tag: tag, Ops: []command.Op{op}}
			switch tag {
			case 6, 8, 9:
				p.takes(t, q)
			default:
				p.refuses(t, q, api.ErrArg)
			}
		}
	}
}

// P17.2
func TestWithoutOps(t *testing.T) {
	for _, tag := range []int{command.Write, command.Del, command.Batch} {
		with(much).refuses(t, command.Request{Tag: tag}, api.ErrArg)
		with(much).refuses(t, command.Request{Tag: tag, Ops: []command.Op{}}, api.ErrArg)
	}
}

// P17.2: an op whose record may not be is ErrArg, at any place, whatever the others are.
func TestOpsThatMayNotBe(t *testing.T) {
	p := with(api.Quota{}, putOf("b", "", 1, 0), metaOf(api.Quota{}, math.MaxUint64, 1))
	bad := []command.Op{put("", "1"), del(""), put(text(65), "1"), del(text(65)), put(text(5000), ""), put("a", text(1001)), put("a", text(70000)), on(9, put("", ""))}
	// Each of these has an error of its own here.
	others := []command.Op{on(7, put("b", "")), del("none"), put("a", "1"), del("b")}
	for _, op := range bad {
		p.refuses(t, batch(op), api.ErrArg)
		for _, x := range others {
			p.refuses(t, batch(op, x), api.ErrArg)
			p.refuses(t, batch(x, op), api.ErrArg)
			p.refuses(t, batch(x, op, x), api.ErrArg)
		}
	}
}

// P17.2: what just may be is planned; of a deletion there is no more than the key.
func TestOpsThatJustMayBe(t *testing.T) {
	p := with(much, putOf(text(64), "", 1, 0))
	p.writes(t, batch(put("\x00", text(1000)), put(text(64), text(999)), put(text(63), "")),
		putOf("\x00", text(1000), 2, 0), putOf(text(64), text(999), 3, 0), putOf(text(63), "", 4, 0))
	p.writes(t, batch(command.Op{Del: true, Key: text(64), Val: text(2000), TTL: 8}), delOf(text(64), 2))
}

// P17.2: of a bucket that no record may be of nothing is planned.
func TestBucketThatMayNotBe(t *testing.T) {
	for _, p := range []*past{{id: -1, gen: 1, quota: much}, {id: 64, gen: 1, quota: much}, {id: math.MaxInt, gen: 1, quota: much}, {id: 1, gen: 0, quota: much}} {
		p.refuses(t, batch(put("a", "")), api.ErrArg)
		p.refuses(t, batch(del("a")), api.ErrArg)
	}
}

// P17.2: there may be more ops than a Batch has.
func TestManyOps(t *testing.T) {
	var ops []command.Op
	var want []api.Record
	for i := range 3000 {
		key := fmt.Sprint("k", i%100)
		ops = append(ops, put(key, text(i%50)))
		want = append(want, putOf(key, text(i%50), uint64(i+1), 0))
	}
	with(much).writes(t, batch(ops...), want...)
	with(api.Quota{Keys: 100, Bytes: 1 << 40, Budget: 1 << 40}).takes(t, batch(ops...))
	with(api.Quota{Keys: 99, Bytes: 1 << 40, Budget: 1 << 40}).refuses(t, batch(ops...), api.ErrKeys)
}

// P17.2: versions go on from the next one, op by op.
func TestVersions(t *testing.T) {
	for _, seq := range []uint64{0, 1, 2, 255, math.MaxUint32, 1 << 63, math.MaxUint64 - 4} {
		p := with(much, putOf("a", "", 0, 0), metaOf(much, seq, 1))
		p.writes(t, batch(put("b", "1")), putOf("b", "1", seq, 0))
		p.writes(t, batch(del("a")), delOf("a", seq))
		p.writes(t, batch(del("a"), put("b", "1"), put("b", "2"), del("b")),
			delOf("a", seq), putOf("b", "1", seq+1, 0), putOf("b", "2", seq+2, 0), delOf("b", seq+3))
	}
}

// P17.2
func TestCond(t *testing.T) {
	p := with(much, putOf("a", "", 4, 0), putOf("b", "", 6, 0))
	for cond := range uint64(20) {
		for _, op := range []command.Op{put("a", "1"), del("a")} {
			if cond == 0 || cond == 4 {
				p.takes(t, batch(on(cond, op)))
			} else {
				p.refuses(t, batch(on(cond, op)), api.ErrVersion)
			}
		}
	}
	for _, cond := range []uint64{1 << 32, 1<<32 + 4, 1 << 63, math.MaxUint64} {
		p.refuses(t, batch(on(cond, put("a", "1"))), api.ErrVersion)
	}
}

// P17.2: the version of a key that isn't there is 0, so that there is no condition that holds; a deletion tells that ahead of ErrNone.
func TestCondOfNoKey(t *testing.T) {
	p := with(much, putOf("b", "", 4, 0), delOf("b", 5), putOf("c", "", 6, 9))
	p.tick(9)
	for _, key := range []string{"a", "b", "c"} {
		for _, cond := range []uint64{1, 4, 5, 6, 7, math.MaxUint64} {
			p.refuses(t, batch(on(cond, put(key, "1"))), api.ErrVersion)
			p.refuses(t, batch(on(cond, del(key))), api.ErrVersion)
		}
		p.writes(t, batch(put(key, "1")), putOf(key, "1", 7, 0))
		p.refuses(t, batch(del(key)), api.ErrNone)
	}
}

// P17.2: a key whose version is 0 meets no condition, either.
func TestCondOfVersion0(t *testing.T) {
	p := with(much, putOf("a", "", 0, 0), metaOf(much, 0, 1))
	p.refuses(t, batch(on(1, put("a", ""))), api.ErrVersion)
	p.writes(t, batch(put("a", "x"), del("a")), putOf("a", "x", 0, 0), delOf("a", 1))
}

// P17.2: a condition is of what there is behind the ops ahead.
func TestCondBehindOps(t *testing.T) {
	p := with(much, putOf("a", "", 4, 0))
	p.writes(t, batch(put("a", "1"), on(5, put("a", "2")), on(6, del("a")), put("a", "3"), on(8, put("a", "4"))),
		putOf("a", "1", 5, 0), putOf("a", "2", 6, 0), delOf("a", 7), putOf("a", "3", 8, 0), putOf("a", "4", 9, 0))
	p.writes(t, batch(put("b", "1"), on(4, put("a", "2")), on(5, del("b"))), putOf("b", "1", 5, 0), putOf("a", "2", 6, 0), delOf("b", 7))
	for _, l := range [][]command.Op{
		{put("a", "1"), on(4, put("a", "2"))},
		{put("a", "1"), on(4, del("a"))},
		{put("a", "1"), on(6, put("a", "2"))},
		{del("a"), on(4, put("a", "2"))},
		{del("a"), on(5, put("a", "2"))},
		{del("a"), on(5, del("a"))},
		{put("b", "1"), put("b", "1"), on(5, del("b"))},
	} {
		p.refuses(t, batch(l...), api.ErrVersion)
	}
}

// P17.2: a deletion sees what the ops ahead put and deleted.
func TestDeletionsOfNone(t *testing.T) {
	p := with(much, putOf("a", "", 4, 0))
	p.refuses(t, batch(del("b")), api.ErrNone)
	p.refuses(t, batch(del("A")), api.ErrNone)
	p.refuses(t, batch(del("a"), del("a")), api.ErrNone)
	p.refuses(t, batch(put("b", ""), del("b"), put("a", ""), del("b")), api.ErrNone)
	p.writes(t, batch(put("b", ""), del("b")), putOf("b", "", 5, 0), delOf("b", 6))
	p.writes(t, batch(del("a"), put("a", ""), del("a")), delOf("a", 5), putOf("a", "", 6, 0), delOf("a", 7))
}

// P17.2
func TestGreatestVersion(t *testing.T) {
	p := with(much, putOf("a", "", 1, 0), metaOf(much, math.MaxUint64, 1))
	p.refuses(t, batch(put("a", "")), api.ErrLimit)
	p.refuses(t, batch(put("b", "")), api.ErrLimit)
	p.refuses(t, batch(on(1, del("a"))), api.ErrLimit)
	p.refuses(t, batch(on(2, del("a"))), api.ErrVersion)
	p.refuses(t, batch(del("b")), api.ErrNone)

	p = with(much, putOf("a", "", 1, 0), metaOf(much, math.MaxUint64-1, 1))
	p.writes(t, batch(put("a", "")), putOf("a", "", math.MaxUint64-1, 0))
	p.writes(t, batch(del("a")), delOf("a", math.MaxUint64-1))
	p.refuses(t, batch(put("a", ""), put("b", "")), api.ErrLimit)
	p.refuses(t, batch(put("a", ""), del("a")), api.ErrLimit)
	p.refuses(t, batch(del("a"), del("a")), api.ErrNone)
	p.refuses(t, batch(del("a"), on(1, del("a"))), api.ErrVersion)
}

// P17.2: the first op's error is told, though a later one's stands ahead in the chapter; and each of them ahead of Check's.
func TestFirstErrorOfOps(t *testing.T) {
	p := with(api.Quota{}, putOf("a", "", 1, 0), metaOf(api.Quota{}, math.MaxUint64-1, 1))
	limit, none, version := put("b", ""), del("none"), on(9, put("a", ""))
	p.refuses(t, batch(none, version), api.ErrNone)
	p.refuses(t, batch(version, none), api.ErrVersion)
	p.refuses(t, batch(put("a", ""), limit, none), api.ErrLimit)
	p.refuses(t, batch(put("a", ""), limit, version), api.ErrLimit)
	p.refuses(t, batch(put("a", ""), none, limit), api.ErrNone)
	p.refuses(t, batch(put("a", ""), version, limit), api.ErrVersion)
	p.refuses(t, batch(put("a", "")), api.ErrKeys)
}

// P17.2
func TestExpiry(t *testing.T) {
	const most = math.MaxUint64
	for _, c := range []struct{ now, ttl, want uint64 }{
		{0, 0, 0}, {7, 0, 0}, {most, 0, 0},
		{0, 1, 1}, {0, 9, 9}, {7, 9, 16}, {0, most, most},
		{most - 1, 1, most}, {most - 9, 8, most - 1}, {most - 9, 9, most}, {most - 9, 10, most}, {most - 9, most, most},
		{most, 1, most}, {most, most, most}, {1, most, most}, {1, most - 1, most}, {1, most - 2, most - 1},
		{1 << 63, 1 << 63, most}, {1<<63 - 1, 1 << 63, most}, {1<<63 - 1, 1<<63 - 1, most - 1},
	} {
		with(much).write(t, batch(ending(c.ttl, put("a", "1"))), c.now, []api.Record{putOf("a", "1", 1, c.want)}, 1, 0)
	}
	// Nothing is Ticked ahead of a deletion in the same plan, though the key's end is now.
	with(much).write(t, batch(ending(1, put("a", "1")), on(1, del("a"))), most, []api.Record{putOf("a", "1", 1, most), delOf("a", 2)}, 2, 0)
}

// P17.4
func TestPlannedIsNewMemory(t *testing.T) {
	p := with(much, putOf("a", "", 4, 0))
	b, q := p.make(), batch(put("a", "1"), put("b", "2"))
	first, _, _ := plan.Write(b, q, 0)
	second, _, _ := plan.Write(b, q, 0)
	first[0], first[1] = api.Record{}, api.Record{}
	_ = append(first, delOf("x", 1))
	q.Ops[0] = del("z")
	if len(second) != 2 || second[0] != putOf("a", "1", 5, 0) || second[1] != putOf("b", "2", 6, 0) {
		t.Errorf("what was told became %+v", second)
	}
	p.holdKept(t, b)
}

// P1: where there is no bucket nothing is planned.
func TestWithoutBucket(t *testing.T) {
	var none *bucket.Bucket
	if l, v, err := plan.Write(none, batch(put("a", "1")), 1); itself(err) != api.ErrArg || len(l) != 0 || v != 0 {
		t.Errorf("Write is %v, %d, %v", l, v, err)
	}
	if r, err := plan.Mint(none, mint(1), 7, 1); itself(err) != api.ErrArg || r != (api.Record{}) {
		t.Errorf("Mint is %v, %v", r, err)
	}
	if r, err := plan.Revoke(none, revoke(1)); itself(err) != api.ErrArg || r != (api.Record{}) {
		t.Errorf("Revoke is %v, %v", r, err)
	}
}
