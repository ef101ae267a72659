package bucket

import (
	"math/rand"
	"strconv"
	"testing"

	"hassock/api"
)

// TestStaleIsDropped holds that a bucket keeps no more items than twice its keys, whatever was put and deleted.
func TestStaleIsDropped(t *testing.T) {
	r := rand.New(rand.NewSource(15))
	for _, keys := range []int{1, 2, 10, 500} {
		for _, times := range []int{1, 5, 1 << 40} {
			b := New(1, 1, api.Quota{})
			for range 5000 {
				x := api.Record{Kind: api.RPut, Bucket: 1, Gen: 1, Key: strconv.Itoa(r.Intn(keys)), Expiry: uint64(1 + r.Intn(times))}
				if r.Intn(4) == 0 {
					x.Kind, x.Expiry = api.RDel, 0
				}
				b.Apply(x, api.Spot{})
				if r.Intn(200) == 0 {
					b.Tick(uint64(r.Intn(times)))
				}
				if n, most := b.ends.Len(), 2*b.keys.Len(); n > most {
					t.Fatalf("%d items are kept, not at most %d", n, most)
				}
			}
		}
	}
}

// TestStaleIsDroppedByTick holds it behind a Tick that takes most keys, and leaves one with many items.
func TestStaleIsDroppedByTick(t *testing.T) {
	b := New(1, 1, api.Quota{})
	put := func(key string, expiry uint64) {
		b.Apply(api.Record{Kind: api.RPut, Bucket: 1, Gen: 1, Key: key, Expiry: expiry}, api.Spot{})
	}
	for n := range 100 {
		put(strconv.Itoa(n), 1)
	}
	for n := range uint64(90) {
		put("a", 100+n)
	}
	if n := b.ends.Len(); n != 190 {
		t.Fatalf("%d items are kept, not 190: the rest of the test holds nothing", n)
	}
	b.Tick(1)
	if n := b.ends.Len(); n != 1 {
		t.Errorf("%d items are kept, not 1", n)
	}
	if b.Tick(188) != 0 || b.Tick(189) != 1 {
		t.Error("the key that is left isn't gone at its own time")
	}
}

// TestMuchIsPutAgain holds that a bucket that had many keys doesn't look at all its places for each item that it drops.
func TestMuchIsPutAgain(t *testing.T) {
	b := New(1, 1, api.Quota{})
	for _, kind := range []int{api.RPut, api.RDel} {
		for n := range 200000 {
			b.Apply(api.Record{Kind: kind, Bucket: 1, Gen: 1, Key: strconv.Itoa(n)}, api.Spot{})
		}
	}
	for n := range uint64(200000) {
		b.Apply(api.Record{Kind: api.RPut, Bucket: 1, Gen: 1, Key: "a", Expiry: 1 + n%7}, api.Spot{})
	}
	if b.Keys() != 1 || b.Tick(7) != 1 {
		t.Error("the key isn't gone")
	}
}
