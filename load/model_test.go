package load_test

import (
	"math"
	"math/big"
	"math/rand"
	"slices"
	"testing"

	"hassock/load"
)

// most is the greatest part of a load, 2^40, written out.
const most int64 = 1099511627776

// entry is what the model knows of a bucket.
type entry struct {
	bucket        int
	written, read int64
}

// model is what loads are, written apart, in whole numbers: entries in any order, some maybe of 0.
type model []entry

// clip is a number that a load has more: from 0 to the greatest part.
func clip(n int64) int64 {
	switch {
	case n < 0:
		return 0
	case n > most:
		return most
	}
	return n
}

// of is a bucket's entry: all are looked at.
func (m model) of(bucket int) entry {
	for _, x := range m {
		if x.bucket == bucket {
			return x
		}
	}
	return entry{bucket: bucket}
}

func (m *model) drop(bucket int) {
	*m = slices.DeleteFunc(*m, func(x entry) bool { return x.bucket == bucket })
}

func (m *model) add(bucket int, written, read int64) {
	x := m.of(bucket)
	m.drop(bucket)
	*m = append(*m, entry{bucket, clip(x.written + clip(written)), clip(x.read + clip(read))})
}

// told is a number as a part of a complex one: the nearest that there is.
func told(n *big.Int) float64 {
	f, _ := new(big.Float).SetMode(big.ToNearestEven).SetInt(n).Float64()
	return f
}

// sum is all entries' sum, in numbers of any length.
func (m model) sum() complex128 {
	written, read := new(big.Int), new(big.Int)
	for _, x := range m {
		written.Add(written, big.NewInt(x.written))
		read.Add(read, big.NewInt(x.read))
	}
	return complex(told(written), told(read))
}

// heavy are the buckets, put in one behind the other, each ahead of those that it goes ahead of.
func (m model) heavy() []int {
	var l []entry
	for _, x := range m {
		if x.written == 0 && x.read == 0 {
			continue
		}
		at := 0
		for at < len(l) && goesAhead(l[at], x) {
			at++
		}
		l = slices.Insert(l, at, x)
	}
	var buckets []int
	for _, x := range l {
		buckets = append(buckets, x.bucket)
	}
	return buckets
}

// goesAhead tells whether a bucket is heavier than another, or as heavy, and of a lesser number.
func goesAhead(x, y entry) bool {
	if n, m := x.written+x.read, y.written+y.read; n != m {
		return n > m
	}
	return x.bucket < y.bucket
}

// hold holds all that loads tell against a model.
func hold(t *testing.T, l *load.Loads, m model) {
	t.Helper()
	for _, x := range m {
		holdOf(t, l, m, x.bucket)
	}
	if sum, want := l.Sum(), m.sum(); sum != want {
		t.Fatalf("Sum is %v, not %v", sum, want)
	}
	if heavy, want := l.Heavy(), m.heavy(); !slices.Equal(heavy, want) {
		t.Fatalf("Heavy is %d, not %d", heavy, want)
	}
}

// holdOf holds a bucket's load against the model's.
func holdOf(t *testing.T, l *load.Loads, m model, bucket int) {
	t.Helper()
	x := m.of(bucket)
	if n, want := l.Of(bucket), complex(float64(x.written), float64(x.read)); n != want {
		t.Fatalf("Of(%d) is %v, not %v", bucket, n, want)
	}
}

// holdAdd adds to both, and holds the bucket's load.
func holdAdd(t *testing.T, l *load.Loads, m *model, bucket int, written, read int64) {
	t.Helper()
	l.Add(bucket, written, read)
	m.add(bucket, written, read)
	holdOf(t, l, *m, bucket)
}

// holdDrop drops from both, and holds that the bucket has no load.
func holdDrop(t *testing.T, l *load.Loads, m *model, bucket int) {
	t.Helper()
	l.Drop(bucket)
	m.drop(bucket)
	if n := l.Of(bucket); n != 0 {
		t.Fatalf("Of(%d) is %v behind a Drop", bucket, n)
	}
}

// randomBucket is one of so many, or of any.
func randomBucket(r *rand.Rand, many int) int {
	if r.Intn(20) == 0 {
		return []int{-1, -r.Intn(many) - 1, math.MaxInt64, math.MinInt64, 1 << 32, 1<<32 + 1}[r.Intn(6)]
	}
	return r.Intn(many)
}

// randomBytes are how many bytes: few, up to some bits, about the greatest part, or below 0.
func randomBytes(r *rand.Rand, bits int) int64 {
	switch r.Intn(10) {
	case 0:
		return -r.Int63() >> r.Intn(63)
	case 1:
		return r.Int63n(3)
	case 2:
		if bits >= 40 {
			return most + r.Int63n(5) - 2
		}
	}
	return r.Int63() >> (63 - r.Intn(bits+1))
}

// P14.1, P14.3: of few and many buckets, with loads that are far from the greatest, about it, and above it.
func TestRandomScripts(t *testing.T) {
	r := rand.New(rand.NewSource(14))
	for _, many := range []int{1, 3, 20, 64, 300} {
		for _, bits := range []int{2, 10, 38, 40, 63} {
			for range 5 {
				l, m := load.New(), model{}
				for range 300 {
					if bucket := randomBucket(r, many); r.Intn(8) == 0 {
						holdDrop(t, l, &m, bucket)
					} else {
						holdAdd(t, l, &m, bucket, randomBytes(r, bits), randomBytes(r, bits))
					}
					holdOf(t, l, m, randomBucket(r, many))
					if r.Intn(10) == 0 {
						hold(t, l, m)
					}
				}
				hold(t, l, m)
			}
		}
	}
}

// P14.1: loads of alike sums, in many ways, so that numbers alone tell which goes ahead.
func TestRandomHeavyOfAlikeSums(t *testing.T) {
	r := rand.New(rand.NewSource(15))
	for range 500 {
		l, m := load.New(), model{}
		for range r.Intn(40) {
			sum := int64(1 + r.Intn(3))
			written := r.Int63n(sum + 1)
			bucket := r.Intn(60) - 30
			holdDrop(t, l, &m, bucket)
			holdAdd(t, l, &m, bucket, written, sum-written)
		}
		hold(t, l, m)
	}
}

// P14.3: without parts that are cut off, the sum is that of all that was added, in whatever parts and to whatever buckets.
func TestRandomSumsOfAllThatIsAdded(t *testing.T) {
	r := rand.New(rand.NewSource(16))
	for range 300 {
		l := load.New()
		var written, read int64
		for range r.Intn(100) {
			w, x := r.Int63n(1<<33), r.Int63n(1<<33)
			l.Add(r.Intn(10), w, x)
			written += w
			read += x
		}
		if sum := l.Sum(); sum != complex(float64(written), float64(read)) {
			t.Fatalf("Sum is %v, not %d and %d", sum, written, read)
		}
		var all complex128
		for _, bucket := range l.Heavy() {
			all += l.Of(bucket)
		}
		if sum := l.Sum(); sum != all {
			t.Fatalf("Sum is %v, and of all that Of tells %v", sum, all)
		}
	}
}
