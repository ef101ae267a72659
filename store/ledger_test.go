package store_test

import (
	"fmt"
	"math"
	"strings"
	"testing"

	"hassock/api"
	"hassock/disk"
	"hassock/store"
)

// reserves tells of a store that it must reserve that for budgets and the administrator's records.
func reserves(t *testing.T, what string, s *store.Store, want int64) {
	t.Helper()
	if got := s.Reserve(); got != base+2*want {
		t.Errorf("%s: %d are reserved, not %d", what, got, base+2*want)
	}
}

// withRoom opens a disk's store with a capacity that has room for just so much, beside what is reserved anyway.
func withRoom(t *testing.T, d *disk.Disk, sum, beside int64) *store.Store {
	t.Helper()
	return open(t, d, store.Config{Limit: 1 << 30, Capacity: int(base + 2*sum + beside)})
}

// P18.2: the chapter's example.
func TestExamples(t *testing.T) {
	s := fresh(t, store.Config{Limit: 200, Capacity: 30000})
	for gen := range uint32(2) {
		k, err := s.Create(3, api.Quota{}, 5)
		if err != nil || k.Gen != gen+1 {
			t.Error(k, err)
		}
		if gen == 0 {
			done(t, s.Drop(3))
		}
	}
}

// P18.2: a bucket is created just where there is room for its budget, or its token, if that is more, and for the administrator's records.
func TestRoomToCreate(t *testing.T) {
	for n, reserved := range map[int64]int64{0: 27, 1: 27, 26: 27, 27: 27, 28: 28, 5000: 5000, 1 << 35: 1 << 35} {
		for what, l := range map[string][]api.Record{
			"alone":            nil,
			"beside a bucket":  {bucketOf(5, 1, budget(300), 1, 2)},
			"behind one":       {bucketOf(4, 1, budget(300), 1, 2), dropOf(4, 1)},
			"behind two":       {bucketOf(4, 1, budget(300), 1, 2), dropOf(4, 1), bucketOf(5, 1, budget(0), 1, 2), putOf(5, 1, "a", "b", 1, 0), dropOf(5, 1)},
			"with generations": {genOf(4, 8), genOf(9, 3)},
		} {
			what := fmt.Sprintf("%s, a budget of %d", what, n)
			d := logged(t, l...)
			had := (open(t, d, wide).Reserve() - base) / 2
			for beside, want := range map[int64]api.Code{-1: api.ErrSpace, 0: 0, 1: 0} {
				d := logged(t, l...)
				s := withRoom(t, d, had+reserved+bucketCost+endCost, beside)
				effects := d.Effects()
				k, err := s.Create(4, budget(n), 1)
				is(t, what, err, want)
				if want != 0 {
					if k != (api.Token{}) || d.Effects() != effects {
						t.Errorf("%s: %v, %d effects", what, k, d.Effects()-effects)
					}
					reserves(t, what, s, had)
					continue
				}
				reserves(t, what, s, had+reserved+bucketCost+endCost)
			}
		}
	}
	is64 := store.Config{Limit: 1 << 30, Capacity: 400 << 30}
	_, err := fresh(t, is64).Create(4, budget(200<<30), 1)
	is(t, "more than the greatest capacity", err, api.ErrSpace)
	_, err = fresh(t, is64).Create(4, budget(200<<30-base/2-bucketCost-endCost), 1)
	is(t, "all of the greatest capacity", err, 0)
	for capacity, want := range map[int]api.Code{0: api.ErrSpace, 1: api.ErrSpace, base: api.ErrSpace, base + 209: api.ErrSpace, base + 210: 0} {
		_, err := fresh(t, store.Config{Limit: 100, Capacity: capacity}).Create(4, budget(0), 1)
		is(t, fmt.Sprintf("a capacity of %d", capacity), err, want)
	}
}

// P18.2: a bucket is resized just where there is room for that quota in place of its own, and one more RBucket.
func TestRoomToResize(t *testing.T) {
	l := []api.Record{
		bucketOf(3, 1, budget(100), 1, 2), dropOf(3, 1), genOf(9, 2),
		bucketOf(5, 1, budget(70), 1, 2), bucketOf(4, 1, budget(1000), 1, 2), putOf(4, 1, "a", strings.Repeat("v", 300-putCost-1), 1, 0),
	}
	const beside = 100 + bucketCost + endCost + genCost + 70 + bucketCost + endCost + bucketCost + endCost
	for n, reserved := range map[int64]int64{0: 300, 299: 300, 300: 300, 301: 301, 999: 999, 1000: 1000, 1001: 1001, 5000: 5000} {
		for more, want := range map[int64]api.Code{-1: api.ErrSpace, 0: 0, 1: 0} {
			what := fmt.Sprintf("to %d, %d more", n, more)
			d := logged(t, l...)
			s := withRoom(t, d, beside+reserved+bucketCost, more)
			reserves(t, what, s, beside+1000)
			is(t, what, s.Resize(4, budget(n)), want)
			if b, _ := s.Bucket(4); (b.Meta().Quota == budget(n)) != (want == 0 || n == 1000) {
				t.Errorf("%s: %v", what, b.Meta())
			}
			if want != 0 {
				reserves(t, what, s, beside+1000)
				continue
			}
			reserves(t, what, s, beside+reserved+bucketCost)
		}
	}
	// Each time there is one more.
	s := withRoom(t, disk.New(room), 50+bucketCost+endCost+3*bucketCost, 0)
	b := must(t, s, 0, 50)
	for range 3 {
		done(t, s.Resize(0, budget(50)))
	}
	is(t, "a fourth time", s.Resize(0, budget(50)), api.ErrSpace)
	if b.Meta() != bucketOf(0, 1, budget(50), 1, 2) {
		t.Error(b.Meta())
	}
}

// P18.1, P18.2: what is reserved goes with what is charged, and stays behind a drop as it was then.
func TestReserve(t *testing.T) {
	s := fresh(t, wide)
	sum := int64(0)
	more := func(what string, n int64) {
		t.Helper()
		sum += n
		reserves(t, what, s, sum)
	}
	b := must(t, s, 4, 100)
	more("created", 100+bucketCost+endCost)
	done(t, s.Append([]api.Record{putOf(4, 1, "a", strings.Repeat("v", 73-putCost-1), 1, 0)}))
	more("charged its budget", 0)
	done(t, s.Append([]api.Record{delOf(4, 1, "a", 2)}))
	more("charged more", 25)
	b.Apply(putOf(4, 1, "b", "", 3, 0), api.Spot{})
	more("charged by another", 35)
	done(t, s.Resize(4, budget(0)))
	more("resized to none", bucketCost)
	done(t, s.Resize(4, budget(161)))
	more("resized to one more", bucketCost+1)
	done(t, s.Drop(4))
	more("dropped", 0)
	b.Apply(putOf(4, 1, "b", strings.Repeat("v", 500), 3, 0), api.Spot{})
	more("charged behind its drop", 0)
	b = must(t, s, 4, 10)
	more("created anew", 27+bucketCost+endCost)
	must(t, s, 63, 7000)
	more("another one", 7000+bucketCost+endCost)
	b.Recharge()
	more("recharged", 0)
	done(t, s.Drop(4))
	done(t, s.Drop(63))
	more("both dropped", 0)
	for range 3 {
		must(t, s, 63, 11)
		more("created again", 27+bucketCost+endCost)
		done(t, s.Drop(63))
		more("dropped again", 0)
	}
}

// P18.3: behind a merge just what lives is reserved for, and the generations that it wrote.
func TestSettle(t *testing.T) {
	d := disk.New(room)
	s := open(t, d, wide)
	b := must(t, s, 4, 30)
	must(t, s, 5, 500)
	must(t, s, 6, 600)
	must(t, s, 63, 0)
	done(t, s.Resize(4, budget(20)))
	done(t, s.Append([]api.Record{putOf(4, 1, "a", "1", 1, 0), putOf(4, 1, "b", "2", 2, 9), delOf(4, 1, "a", 3), putOf(4, 1, "c", "3", 4, 0)}))
	done(t, s.Drop(5))
	done(t, s.Drop(6))
	must(t, s, 6, 70)
	reserves(t, "ahead", s, (27+36+36+25+36)+500+600+70+27+6*bucketCost+5*endCost)
	done(t, merge(s))
	merged := int64((27 + 36 + 36) + 70 + 27 + 3*(bucketCost+endCost) + genCost)
	reserves(t, "merged", s, merged)
	if b.Charged() != 27+36+36 || b.Meta() != bucketOf(4, 1, budget(20), 5, 2) {
		t.Error(b.Charged(), b.Meta())
	}
	before := picture(t, s)
	for range 3 {
		if s.Settle(); picture(t, s) != before {
			t.Errorf("settled once more: %s, not %s", picture(t, s), before)
		}
	}
	if again := open(t, d, wide); picture(t, again) != before {
		t.Errorf("opened again: %s, not %s", picture(t, again), before)
	}
	// The generation's record stays till the next merge, also where there is a bucket again.
	must(t, s, 5, 40)
	reserves(t, "created behind a merge", s, merged+40+bucketCost+endCost)
	if again := open(t, d, wide); picture(t, again) != picture(t, s) {
		t.Errorf("opened again: %s, not %s", picture(t, again), picture(t, s))
	}
	b.Tick(9)
	reserves(t, "a key is gone", s, merged+40+bucketCost+endCost)
	done(t, merge(s))
	merged = (27 + 36) + 70 + 27 + 40 + 4*(bucketCost+endCost)
	reserves(t, "merged again", s, merged)
	for _, id := range []int{4, 5, 6, 63} {
		done(t, s.Drop(id))
		reserves(t, "dropped", s, merged)
	}
	done(t, merge(s))
	reserves(t, "merged without buckets", s, 4*genCost)
	if s.Log().Bytes() != 4*genCost || s.Next(5) != 3 || s.Next(6) != 3 || s.Next(4) != 2 {
		t.Error(s.Log().Bytes(), s.Next(4), s.Next(5), s.Next(6))
	}
	if again := open(t, d, wide); picture(t, again) != picture(t, s) {
		t.Errorf("opened again: %s, not %s", picture(t, again), picture(t, s))
	}
}

// P18.3: a store without buckets, and one of a generation alone, settled.
func TestSettleOfNone(t *testing.T) {
	s := fresh(t, wide)
	s.Settle()
	reserves(t, "a new store", s, 0)
	for gen, want := range map[uint32]int64{1: 0, 2: genCost, math.MaxUint32: genCost} {
		s := open(t, logged(t, genOf(7, gen), genOf(7, 1)), wide)
		reserves(t, "two records", s, 2*genCost)
		s.Settle()
		reserves(t, "settled", s, want)
		if s.Next(7) != gen || len(s.Buckets()) != 0 {
			t.Error(s.Next(7), s.Buckets())
		}
	}
}

// P18.1: budgets of many buckets, each the greatest, aren't cut off.
func TestGreatBudgets(t *testing.T) {
	most := api.Quota{Budget: api.MaxQuota}
	var l []api.Record
	for id := range 64 {
		l = append(l, bucketOf(id, 1, most, 1, 1), dropOf(id, 1), bucketOf(id, 2, most, 1, 1))
	}
	s := open(t, logged(t, l...), wide)
	reserves(t, "128 of them", s, 128*(api.MaxQuota+bucketCost+endCost))
	is(t, "one of them resized to none", s.Resize(3, budget(0)), api.ErrSpace)
}
