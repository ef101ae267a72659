package store_test

import (
	"fmt"
	"math"
	"slices"
	"testing"

	"hassock/api"
	"hassock/bucket"
	"hassock/disk"
	"hassock/seglog"
	"hassock/store"
)

// What a record costs, beside its key's and value's bytes: eight of the frame, six that each record has, and its own.
const (
	bucketCost = 8 + 6 + 3*8 + 8 + 4
	dropCost   = 8 + 6
	putCost    = 8 + 6 + 8 + 8 + 2 + 2
	delCost    = 8 + 6 + 8 + 2
	tokenCost  = 8 + 6 + 4 + 1 + 8
	revokeCost = 8 + 6 + 4
	genCost    = 8 + 6
	endCost    = dropCost + genCost
)

// base is the reserve of no buckets.
const base = 10000

// wide is a config that has room for all that is created here, and room a disk's capacity that is never reached.
var wide = store.Config{Limit: 1 << 30, Capacity: 400 << 30}

const room = 1 << 40

func bucketOf(id int, gen uint32, q api.Quota, seq uint64, serial uint32) api.Record {
	return api.Record{Kind: 1, Bucket: id, Gen: gen, Quota: q, Seq: seq, Serial: serial}
}

func dropOf(id int, gen uint32) api.Record { return api.Record{Kind: 2, Bucket: id, Gen: gen} }

func putOf(id int, gen uint32, key, val string, version, expiry uint64) api.Record {
	return api.Record{Kind: 3, Bucket: id, Gen: gen, Key: key, Val: val, Version: version, Expiry: expiry}
}

func delOf(id int, gen uint32, key string, version uint64) api.Record {
	return api.Record{Kind: 4, Bucket: id, Gen: gen, Key: key, Version: version}
}

func tokenOf(id int, gen, serial uint32, rights int, secret uint64) api.Record {
	return api.Record{Kind: 5, Bucket: id, Gen: gen, Serial: serial, Rights: rights, Secret: secret}
}

func revokeOf(id int, gen, serial uint32) api.Record {
	return api.Record{Kind: 6, Bucket: id, Gen: gen, Serial: serial}
}

func genOf(id int, gen uint32) api.Record { return api.Record{Kind: 7, Bucket: id, Gen: gen} }

// budget is a quota that asks for so much log.
func budget(n int64) api.Quota { return api.Quota{Keys: 9, Bytes: 1000, Budget: n} }

// itself is an error as the number that it must be.
func itself(t *testing.T, err error) api.Code {
	t.Helper()
	if err == nil {
		return 0
	}
	code, is := err.(api.Code)
	if !is {
		t.Fatalf("%T isn't a code", err)
	}
	return code
}

// is tells of an error that it must be this code (0: none).
func is(t *testing.T, what string, err error, want api.Code) {
	t.Helper()
	if got := itself(t, err); got != want {
		t.Errorf("%s: error %d, not %d", what, got, want)
	}
}

// done tells of an error that there must be none.
func done(t *testing.T, err error) {
	t.Helper()
	if err != nil {
		t.Fatal(err)
	}
}

// open opens a store.
func open(t *testing.T, d *disk.Disk, c store.Config) *store.Store {
	t.Helper()
	s, err := store.Open(d, c)
	done(t, err)
	return s
}

// fresh is a store on a new disk.
func fresh(t *testing.T, c store.Config) *store.Store {
	t.Helper()
	return open(t, disk.New(room), c)
}

// logged is a disk whose log has these records, each in a frame of its own.
func logged(t *testing.T, l ...api.Record) *disk.Disk {
	t.Helper()
	d := disk.New(room)
	log, _, _, err := seglog.Open(d, wide.Limit)
	done(t, err)
	for _, r := range l {
		_, err := log.Append([]api.Record{r})
		done(t, err)
	}
	return d
}

// frames are all lists of records that a disk's log has.
func frames(t *testing.T, d *disk.Disk, limit int) [][]api.Record {
	t.Helper()
	_, pieces, _, err := seglog.Open(d, limit)
	done(t, err)
	var l [][]api.Record
	for _, p := range pieces {
		l = append(l, p.L)
	}
	return l
}

// hasFrames tells of a disk that its log must have just these.
func hasFrames(t *testing.T, what string, d *disk.Disk, c store.Config, want ...[]api.Record) {
	t.Helper()
	if got := frames(t, d, c.Limit); !slices.EqualFunc(got, want, slices.Equal) {
		t.Errorf("%s: the log has %+v, not %+v", what, got, want)
	}
}

// must creates a bucket of that budget, whose token has the secret 1.
func must(t *testing.T, s *store.Store, id int, n int64) *bucket.Bucket {
	t.Helper()
	_, err := s.Create(id, budget(n), 1)
	done(t, err)
	b, there := s.Bucket(id)
	if !there {
		t.Fatalf("there is no bucket %d", id)
	}
	return b
}

// picture is all that a store tells, but for where things lie.
func picture(t *testing.T, s *store.Store) string {
	t.Helper()
	text := fmt.Sprint(s.Reserve(), s.Buckets())
	for id := -1; id <= api.MaxBucket; id++ {
		if n := s.Next(id); n != 1 {
			text += fmt.Sprintf("\nnext %d: %d", id, n)
		}
		b, there := s.Bucket(id)
		if there != (b != nil) || there != slices.Contains(s.Buckets(), id) {
			t.Errorf("bucket %d: %v, %v", id, b, there)
		}
		if there {
			text += "\n" + pictureOf(t, s, b)
		}
	}
	return text
}

// pictureOf is all that a bucket tells, but for where things lie, with the values.
func pictureOf(t *testing.T, s *store.Store, b *bucket.Bucket) string {
	t.Helper()
	text := fmt.Sprintf("%+v %+v %d %d %d", b.Meta(), b.Tokens(), b.Keys(), b.Bytes(), b.Charged())
	for _, e := range b.Entries() {
		v, err := s.Value(b, e.Key)
		done(t, err)
		text += fmt.Sprintf(" %q: %q %d %d %d", e.Key, v, e.Size, e.Version, e.Expiry)
	}
	return text
}

// merge does what layer 19 does with a store.
func merge(s *store.Store) error {
	if err := s.Log().Begin(); err != nil {
		return err
	}
	for id := range api.MaxBucket {
		b, there := s.Bucket(id)
		var l []api.Record
		switch {
		case there:
			l = append(l, b.Meta())
			l = append(l, b.Tokens()...)
		case s.Next(id) != 1:
			l = append(l, genOf(id, s.Next(id)))
		}
		if err := writeAlone(s, b, l); err != nil {
			return err
		}
	}
	if err := s.Log().Adopt(); err != nil {
		return err
	}
	s.Settle()
	return nil
}

// writeAlone writes records, and then a bucket's keys, if there is one, each in a frame of its own.
func writeAlone(s *store.Store, b *bucket.Bucket, l []api.Record) error {
	for _, r := range l {
		if _, err := s.Log().Append([]api.Record{r}); err != nil {
			return err
		}
	}
	if b == nil {
		return nil
	}
	for _, e := range b.Entries() {
		v, err := s.Value(b, e.Key)
		if err != nil {
			return err
		}
		r := putOf(b.Meta().Bucket, b.Meta().Gen, e.Key, v, e.Version, e.Expiry)
		at, err := s.Log().Append([]api.Record{r})
		if err != nil {
			return err
		}
		b.Apply(r, at)
	}
	return nil
}

// numbers are edges of what an id may be.
var numbers = []int{math.MinInt, -64, -1, 64, 65, 256, 1 << 32, math.MaxInt}
