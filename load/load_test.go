package load_test

import (
	"math"
	"slices"
	"testing"

	"hassock/load"
)

// buckets are edges of what a bucket's number may be, rising.
var buckets = []int{math.MinInt64, math.MinInt64 + 1, -1 << 32, -65, -1, 0, 1, 2, 64, 65, 1 << 32, 1<<32 + 1, math.MaxInt64 - 1, math.MaxInt64}

// bytes are edges of how many bytes may be added.
var bytes = []int64{0, 1, 2, 1000, 1<<32 - 1, 1 << 32, most / 2, most/2 + 1, most - 1, most, most + 1, 1 << 41, 1<<53 + 1, 1 << 62, math.MaxInt64 - 1, math.MaxInt64, -1, -2, -most, -1 << 62, math.MinInt64 + 1, math.MinInt64}

// of are loads, each of so many bytes, by buckets' numbers.
func of(entries ...entry) *load.Loads {
	l := load.New()
	for _, x := range entries {
		l.Add(x.bucket, x.written, x.read)
	}
	return l
}

// holdHeavy holds which buckets are heavy.
func holdHeavy(t *testing.T, l *load.Loads, want ...int) {
	t.Helper()
	if heavy := l.Heavy(); !slices.Equal(heavy, want) {
		t.Errorf("Heavy is %d, not %d", heavy, want)
	}
}

// P14.1
func TestNewLoads(t *testing.T) {
	l := load.New()
	hold(t, l, nil)
	for _, bucket := range buckets {
		if x := l.Of(bucket); x != 0 {
			t.Errorf("Of(%d) of no loads is %v", bucket, x)
		}
		l.Drop(bucket)
	}
	hold(t, l, nil)
	l.Add(1, 2, 3)
	hold(t, load.New(), nil)
	hold(t, l, model{{1, 2, 3}})
}

// P14.1: the chapter's example.
func TestExample(t *testing.T) {
	l := load.New()
	l.Add(3, 5, 0)
	l.Add(3, 0, 7)
	if x := l.Of(3); x != 5+7i {
		t.Errorf("Of(3) is %v, not 5+7i", x)
	}
}

// P14.1: what is written is the real part, and what is read the imaginary one, each by itself.
func TestAdd(t *testing.T) {
	for _, c := range []struct {
		written, read int64
		want          complex128
	}{
		{0, 0, 0},
		{1, 0, 1},
		{0, 1, 1i},
		{10, 20, 10 + 20i},
		{most - 1, 1, 1099511627775 + 1i},
		{1, most - 1, 1 + 1099511627775i},
		{most, most, 1099511627776 + 1099511627776i},
		{most + 1, 3, 1099511627776 + 3i},
		{3, most + 1, 3 + 1099511627776i},
		{math.MaxInt64, math.MaxInt64, 1099511627776 + 1099511627776i},
		{-1, 3, 3i},
		{3, -1, 3},
		{-1, -1, 0},
		{math.MinInt64, math.MaxInt64, 1099511627776i},
		{math.MaxInt64, math.MinInt64, 1099511627776},
	} {
		l := of(entry{4, c.written, c.read})
		if x := l.Of(4); x != c.want {
			t.Errorf("behind Add(4, %d, %d) Of(4) is %v, not %v", c.written, c.read, x, c.want)
		}
		if x := l.Sum(); x != c.want {
			t.Errorf("behind Add(4, %d, %d) Sum is %v, not %v", c.written, c.read, x, c.want)
		}
	}
}

// P14.1: each choice of what is added first and then, of what is written and of what is read.
func TestAddTwice(t *testing.T) {
	for _, first := range bytes {
		for _, then := range bytes {
			for _, other := range []int64{0, 1, most, -1} {
				l, m := load.New(), model{}
				holdAdd(t, l, &m, 7, first, other)
				holdAdd(t, l, &m, 7, then, other)
				hold(t, l, m)
				l, m = load.New(), model{}
				holdAdd(t, l, &m, 7, other, first)
				holdAdd(t, l, &m, 7, other, then)
				hold(t, l, m)
			}
		}
	}
}

// P14.1: below 0 takes nothing away, from no part.
func TestAddBelowZero(t *testing.T) {
	l := of(entry{1, 10, 20}, entry{2, most, most})
	for _, n := range []int64{-1, -10, -20, -30, -most, math.MinInt64} {
		for _, bucket := range []int{1, 2, 3} {
			l.Add(bucket, n, 0)
			l.Add(bucket, 0, n)
			l.Add(bucket, n, n)
		}
		hold(t, l, model{{1, 10, 20}, {2, most, most}})
	}
	l.Add(1, -5, 1)
	l.Add(1, 2, -5)
	hold(t, l, model{{1, 12, 21}, {2, most, most}})
}

// P14.1: each part comes up to 2^40, one by one, and stays there.
func TestAddUpToTheGreatest(t *testing.T) {
	l := of(entry{1, most - 3, 5})
	for i, want := range []int64{most - 2, most - 1, most, most, most} {
		l.Add(1, 1, 0)
		hold(t, l, model{{1, want, 5}})
		l.Add(2, 5, most-3)
		l.Add(2, 0, int64(i+1))
		hold(t, l, model{{1, want, 5}, {2, 5, want}})
		l.Drop(2)
	}
	for range 100 {
		l.Add(1, math.MaxInt64, 1)
	}
	hold(t, l, model{{1, most, 105}})
}

// P14.1: any number is a bucket's, and each has a load of its own.
func TestBucketsOfAnyNumber(t *testing.T) {
	l, m := load.New(), model{}
	for i, bucket := range buckets {
		holdAdd(t, l, &m, bucket, int64(i), int64(2*i+1))
		hold(t, l, m)
	}
	for _, bucket := range buckets {
		holdDrop(t, l, &m, bucket)
		hold(t, l, m)
	}
}

// P14.1: what is dropped is 0, others stay, and what is added behind it is all that there is.
func TestDrop(t *testing.T) {
	l := of(entry{1, 10, 20}, entry{2, most, most}, entry{3, 0, 5})
	l.Drop(4)
	hold(t, l, model{{1, 10, 20}, {2, most, most}, {3, 0, 5}})
	l.Drop(2)
	hold(t, l, model{{1, 10, 20}, {2, 0, 0}, {3, 0, 5}})
	l.Drop(2)
	hold(t, l, model{{1, 10, 20}, {2, 0, 0}, {3, 0, 5}})
	l.Add(2, 0, 7)
	hold(t, l, model{{1, 10, 20}, {2, 0, 7}, {3, 0, 5}})
	l.Drop(3)
	l.Drop(1)
	l.Drop(2)
	hold(t, l, nil)
}

// P14.1: the sum's parts aren't cut off.
func TestSumIsNotCutOff(t *testing.T) {
	l := of(entry{1, most, 0}, entry{2, 1, most}, entry{3, most, most - 1})
	if sum := l.Sum(); sum != 2199023255553+2199023255551i {
		t.Errorf("Sum is %v", sum)
	}
	hold(t, l, model{{1, most, 0}, {2, 1, most}, {3, most, most - 1}})
}

// P14.1, P14.3: of ever more buckets, at the greatest load and about it.
func TestSumOfManyBuckets(t *testing.T) {
	for _, written := range []int64{0, 1, most / 2, most - 1, most} {
		for _, read := range []int64{0, 3, most/2 + 1, most - 1, most} {
			l, m := load.New(), model{}
			for bucket := range 70 {
				l.Add(bucket, written, read)
				m = append(m, entry{bucket, written, read})
				if sum := l.Sum(); sum != m.sum() {
					t.Fatalf("Sum of %d times %d and %d is %v, not %v", bucket+1, written, read, sum, m.sum())
				}
			}
			hold(t, l, m)
		}
	}
}

// P14.1, P14.3: also where not each number has a float of its own, above 2^53, the sum is the nearest one, in whatever order the loads are gone through.
func TestSumOfMoreBits(t *testing.T) {
	for _, c := range []struct {
		buckets       int
		written, read int64
	}{
		{8192, most, most - 1}, {8193, most, most - 1}, {9001, most - 1, most - 1}, {9001, most - 3, 1}, {20001, most - 1, most/2 + 1}, {40001, most - 1, most - 3},
	} {
		l, m := load.New(), model{}
		for bucket := range c.buckets {
			x := entry{bucket, c.written - int64(bucket%2), c.read - int64(bucket%3/2)}
			l.Add(bucket, x.written, x.read)
			m = append(m, x)
		}
		want := m.sum()
		for range 20 {
			if sum := l.Sum(); sum != want {
				t.Fatalf("Sum of %v is %v, not %v", c, sum, want)
			}
		}
	}
}

// P14.1: a load that isn't 0 in one part is enough; what was never more than 0 isn't heavy.
func TestHeavyOfOnePart(t *testing.T) {
	holdHeavy(t, of(entry{1, 1, 0}), 1)
	holdHeavy(t, of(entry{1, 0, 1}), 1)
	holdHeavy(t, of(entry{1, -1, 1}), 1)
	holdHeavy(t, of(entry{1, 0, 0}))
	holdHeavy(t, of(entry{1, -1, -1}, entry{2, 0, -5}, entry{3, math.MinInt64, 0}))
	holdHeavy(t, of(entry{1, 0, 0}, entry{2, 0, 1}, entry{3, 0, 0}), 2)
}

// P14.1: by falling sums of both parts, not by one of them, nor by their greatness as a complex number.
func TestHeavyBySums(t *testing.T) {
	holdHeavy(t, of(entry{1, 1, 0}, entry{2, 2, 0}, entry{3, 3, 0}), 3, 2, 1)
	holdHeavy(t, of(entry{1, 0, 1}, entry{2, 0, 2}, entry{3, 0, 3}), 3, 2, 1)
	holdHeavy(t, of(entry{1, 5, 1}, entry{2, 4, 3}, entry{3, 1, 5}), 2, 1, 3)
	holdHeavy(t, of(entry{1, 10, 0}, entry{2, 6, 6}, entry{3, 0, 11}), 2, 3, 1)
	holdHeavy(t, of(entry{9, 0, 11}, entry{5, 10, 1}, entry{2, 1 << 62, 0}, entry{7, 0, 0}), 2, 5, 9)
	holdHeavy(t, of(entry{1, most, 0}, entry{2, most, most - 1}, entry{3, most, most}, entry{4, most - 1, most - 1}, entry{5, 0, most + 9}, entry{6, most, 1}), 3, 2, 4, 6, 1, 5)
}

// P14.1: of alike sums by rising numbers, whatever their parts are, and in whatever order they were added.
func TestHeavyOfAlikeSums(t *testing.T) {
	for range 20 {
		holdHeavy(t, of(entry{3, 10, 0}, entry{1, 3, 7}, entry{2, 0, 10}), 1, 2, 3)
		holdHeavy(t, of(entry{2, 1, 1}, entry{-2, 2, 0}, entry{0, 0, 2}, entry{10, 1, 1}, entry{-10, 1, 1}, entry{5, 3, 0}), 5, -10, -2, 0, 2, 10)
		l := load.New()
		for i := range buckets {
			l.Add(buckets[(i*5+3)%len(buckets)], int64(i), int64(len(buckets)-i))
		}
		holdHeavy(t, l, buckets...)
	}
}

// P14.1: the order is that of the loads as they are now.
func TestHeavyChanges(t *testing.T) {
	l := of(entry{1, 5, 0}, entry{2, 4, 0})
	holdHeavy(t, l, 1, 2)
	l.Add(2, 0, 1)
	holdHeavy(t, l, 1, 2)
	l.Add(2, 0, 1)
	holdHeavy(t, l, 2, 1)
	l.Drop(2)
	holdHeavy(t, l, 1)
	l.Add(2, 1, 0)
	holdHeavy(t, l, 1, 2)
	l.Drop(1)
	l.Drop(2)
	holdHeavy(t, l)
}

// P14.2: what was told stays, whatever is done behind it, and what is told next doesn't hang on it.
func TestToldIsNewMemory(t *testing.T) {
	l := of(entry{1, 1, 0}, entry{2, 2, 0}, entry{3, 3, 0})
	heavy, other := l.Heavy(), l.Heavy()
	clear(heavy)
	_ = append(heavy[:0], 9, 9)
	if !slices.Equal(other, []int{3, 2, 1}) {
		t.Errorf("what was told became %d", other)
	}
	hold(t, l, model{{1, 1, 0}, {2, 2, 0}, {3, 3, 0}})
	l.Add(1, 5, 0)
	l.Add(4, 9, 0)
	l.Drop(3)
	l.Heavy()
	if !slices.Equal(other, []int{3, 2, 1}) {
		t.Errorf("what was told became %d", other)
	}
	hold(t, l, model{{1, 6, 0}, {2, 2, 0}, {4, 9, 0}})
}

// P14.1: to ask changes nothing.
func TestAskingChangesNothing(t *testing.T) {
	l := of(entry{1, most, 3}, entry{2, 0, most})
	for range 3 {
		for _, bucket := range buckets {
			l.Of(bucket)
		}
		l.Sum()
		l.Heavy()
		hold(t, l, model{{1, most, 3}, {2, 0, most}})
	}
}

// P14.1: two loads have nothing of each other.
func TestTwoLoads(t *testing.T) {
	x, y := of(entry{1, 1, 2}), of(entry{1, 3, 4})
	x.Add(2, 5, 6)
	y.Drop(1)
	hold(t, x, model{{1, 1, 2}, {2, 5, 6}})
	hold(t, y, nil)
}

// P1: the calls end, and don't panic, whatever they are given.
func TestCallsOfAny(t *testing.T) {
	l, m := load.New(), model{}
	for _, bucket := range buckets {
		for _, written := range bytes {
			for _, read := range bytes {
				holdAdd(t, l, &m, bucket, written, read)
			}
		}
		hold(t, l, m)
	}
}
