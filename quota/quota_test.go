package quota_test

import (
	"errors"
	"math"
	"slices"
	"testing"

	"hassock/api"
	"hassock/quota"
)

// greatest is the greatest sum whose reserve is a number of 63 bits: twice it, and 10000, is the greatest such number but one.
const greatest int64 = 4611686018427382903

// parts are edges of what one of a quota's three may be.
var parts = []int64{0, 1, 2, 1000, math.MaxInt32, math.MaxUint32 + 1, 1<<40 - 1, 1 << 40}

// noParts are numbers that none of a quota's three may be.
var noParts = []int64{-1, -2, -1 << 40, math.MinInt64, math.MinInt64 + 1, 1<<40 + 1, 1 << 41, 1 << 60, math.MaxInt64 - 1, math.MaxInt64}

// numbers are edges of all that a check may be asked of.
var numbers = []int64{0, 1, 2, 99, 100, 101, 1<<40 - 1, 1 << 40, 1<<40 + 1, 1<<59 - 1, 1 << 59, 1<<60 - 1, 1 << 60}

// edges are those of all numbers, and of the reserve.
var edges = []int64{0, 1, 9999, 10000, 10001, 1 << 40, 1 << 62, greatest, greatest + 1, math.MaxInt64 - 10000, math.MaxInt64 - 1, math.MaxInt64, -1, -10000, -1 << 62, math.MinInt64 + 1, math.MinInt64}

// P13.1: each choice of three that may be.
func TestMay(t *testing.T) {
	if api.MaxQuota != 1<<40 {
		t.Fatal(api.MaxQuota)
	}
	for _, keys := range parts {
		for _, bytes := range parts {
			for _, budget := range parts {
				if q := (api.Quota{Keys: keys, Bytes: bytes, Budget: budget}); !quota.May(q) {
					t.Errorf("May(%v) is false", q)
				}
			}
		}
	}
}

// P13.1: one of the three that may not be is enough, whatever the other two are.
func TestMayNot(t *testing.T) {
	for _, n := range noParts {
		for _, x := range slices.Concat(parts, noParts) {
			for _, y := range slices.Concat(parts, noParts) {
				for _, q := range []api.Quota{{Keys: n, Bytes: x, Budget: y}, {Keys: x, Bytes: n, Budget: y}, {Keys: x, Bytes: y, Budget: n}} {
					if quota.May(q) {
						t.Errorf("May(%v) is true", q)
					}
				}
			}
		}
	}
}

// P13.1: the chapter's example.
func TestExample(t *testing.T) {
	if n := quota.Reserve([]int64{100, 50}, 10); n != 10320 {
		t.Errorf("the reserve is %d, not 10320", n)
	}
}

// P13.1
func TestReserve(t *testing.T) {
	for _, c := range []struct {
		budgets []int64
		admin   int64
		want    int64
	}{
		{nil, 0, 10000},
		{[]int64{}, 0, 10000},
		{[]int64{0, 0, 0}, 0, 10000},
		{nil, 1, 10002},
		{[]int64{1}, 0, 10002},
		{[]int64{1, 1}, 0, 10004},
		{[]int64{1, 20, 300}, 4000, 18642},
		{[]int64{7, 7, 7, 7}, 7, 10070},
		{[]int64{1 << 40}, 1 << 40, 4398046521104},
		{[]int64{1 << 60}, 1 << 60, 4611686018427397904},
	} {
		if n := quota.Reserve(c.budgets, c.admin); n != c.want {
			t.Errorf("Reserve(%d, %d) is %d, not %d", c.budgets, c.admin, n, c.want)
		}
		holdReserve(t, c.budgets, c.admin)
	}
}

// P13.1: all buckets that there may be, with the greatest budgets.
func TestReserveOfManyBudgets(t *testing.T) {
	l := make([]int64, 1000)
	for i := range l {
		l[i] = api.MaxQuota
		holdReserve(t, l[:i+1], api.MaxQuota)
	}
	if n := quota.Reserve(l, 0); n != 2000<<40+10000 {
		t.Errorf("the reserve is %d", n)
	}
}

// P13.1: each budget and the administrator's sum count, whatever their place is.
func TestReserveCountsEach(t *testing.T) {
	for count := range 8 {
		l := make([]int64, count)
		for i := range l {
			l[i] = 5
			if n := quota.Reserve(l, 0); n != 10010 {
				t.Errorf("Reserve(%d, 0) is %d, not 10010", l, n)
			}
			if n := quota.Reserve(l, 100); n != 10210 {
				t.Errorf("Reserve(%d, 100) is %d, not 10210", l, n)
			}
			l[i] = 0
		}
	}
}

// P13.1: up to the greatest number but one the reserve is told; what is more is the greatest number.
func TestReserveAtItsEnd(t *testing.T) {
	for _, c := range []struct {
		sum  int64
		want int64
	}{
		{greatest - 1, math.MaxInt64 - 3},
		{greatest, math.MaxInt64 - 1},
		{greatest + 1, math.MaxInt64},
		{greatest + 2, math.MaxInt64},
		{1 << 62, math.MaxInt64},
		{1<<62 + 1, math.MaxInt64},
		{math.MaxInt64 - 10000, math.MaxInt64},
		{math.MaxInt64, math.MaxInt64},
	} {
		for _, part := range []int64{0, 1, 5000, 1 << 40, 1 << 61, c.sum / 2, c.sum / 3, c.sum - 1, c.sum} {
			rest := c.sum - part
			for _, l := range [][]int64{{part}, {0, part}, {part, 0, 0}, {part / 2, part - part/2}} {
				if n := quota.Reserve(l, rest); n != c.want {
					t.Errorf("Reserve(%d, %d) is %d, not %d", l, rest, n, c.want)
				}
				holdReserve(t, l, rest)
			}
		}
	}
}

// P13.1: sums that are more than 63 or 64 bits, so that they would be small ones, are the greatest number.
func TestReserveOfMoreBits(t *testing.T) {
	for _, n := range []int64{greatest + 1, 1 << 62, math.MaxInt64 - 9999, math.MaxInt64} {
		for count := 1; count <= 40; count++ {
			l := slices.Repeat([]int64{n}, count)
			for _, admin := range []int64{0, 1, 1 << 62, math.MaxInt64} {
				if got := quota.Reserve(l, admin); got != math.MaxInt64 {
					t.Errorf("Reserve of %d times %d, and %d, is %d", count, n, admin, got)
				}
			}
			holdReserve(t, append(l, 0, 0), 0)
		}
	}
}

// P13.1: one number below 0 is enough, also where others make up for it, ahead of it or behind it.
func TestReserveBelowZero(t *testing.T) {
	for _, n := range []int64{-1, -2, -5000, -10000, -1 << 40, -1 << 62, -greatest - 1, math.MinInt64 + 1, math.MinInt64} {
		for _, l := range [][]int64{{n}, {n, 0}, {0, n}, {n, 20000}, {20000, n}, {20000, n, 20000}, {n, n}, {math.MaxInt64, n}, {n, math.MaxInt64}, {math.MaxInt64, math.MaxInt64, n}} {
			for _, admin := range []int64{0, 1, 1 << 40, greatest, math.MaxInt64} {
				if got := quota.Reserve(l, admin); got != math.MaxInt64 {
					t.Errorf("Reserve(%d, %d) is %d", l, admin, got)
				}
				holdReserve(t, l, admin)
			}
		}
		for _, l := range [][]int64{nil, {0}, {20000}, {1 << 40, 1 << 40}, {math.MaxInt64}, {n}} {
			if got := quota.Reserve(l, n); got != math.MaxInt64 {
				t.Errorf("Reserve(%d, %d) is %d", l, n, got)
			}
			holdReserve(t, l, n)
		}
	}
}

// P13.1
func TestAdmits(t *testing.T) {
	for _, c := range []struct {
		capacity int
		budgets  []int64
		admin    int64
		want     bool
	}{
		{10000, nil, 0, true},
		{9999, nil, 0, false},
		{0, nil, 0, false},
		{-1, nil, 0, false},
		{math.MinInt64, nil, 0, false},
		{math.MaxInt64, nil, 0, true},
		{10320, []int64{100, 50}, 10, true},
		{10319, []int64{100, 50}, 10, false},
		{10321, []int64{100, 50}, 10, true},
		{10001, nil, 1, false},
		{10002, nil, 1, true},
		{10001, []int64{1}, 0, false},
		{10002, []int64{1}, 0, true},
		{math.MaxInt64 - 1, nil, greatest, true},
		{math.MaxInt64 - 2, nil, greatest, false},
		{math.MaxInt64 - 1, nil, greatest + 1, false},
		{math.MaxInt64 - 1, []int64{math.MaxInt64, math.MaxInt64}, 0, false},
		{1 << 40, []int64{-1}, 0, false},
		{1 << 40, nil, -1, false},
		{1 << 40, []int64{-20000}, 20000, false},
		{-1, []int64{-20000}, 0, false},
	} {
		if is := quota.Admits(c.capacity, c.budgets, c.admin); is != c.want {
			t.Errorf("Admits(%d, %d, %d) is %t", c.capacity, c.budgets, c.admin, is)
		}
	}
}

// P13.2: each of the three at its bound, one below and one above it.
func TestCheck(t *testing.T) {
	q := api.Quota{Keys: 5, Bytes: 70, Budget: 900}
	for _, c := range []struct {
		keys, bytes, charged, cost int64
		want                       error
	}{
		{0, 0, 0, 0, nil},
		{5, 70, 900, 0, nil},
		{5, 70, 0, 900, nil},
		{5, 70, 450, 450, nil},
		{4, 69, 450, 449, nil},
		{6, 0, 0, 0, api.ErrKeys},
		{0, 71, 0, 0, api.ErrBytes},
		{0, 0, 901, 0, api.ErrBudget},
		{0, 0, 0, 901, api.ErrBudget},
		{0, 0, 1, 900, api.ErrBudget},
		{0, 0, 900, 1, api.ErrBudget},
		{5, 70, 450, 451, api.ErrBudget},
		{5, 71, 450, 450, api.ErrBytes},
		{6, 70, 450, 450, api.ErrKeys},
		{60, 60, 60, 60, api.ErrKeys},
		{1 << 60, 0, 0, 0, api.ErrKeys},
		{0, 1 << 60, 0, 0, api.ErrBytes},
		{0, 0, 1 << 60, 0, api.ErrBudget},
		{0, 0, 0, 1 << 60, api.ErrBudget},
		{0, 0, 1 << 60, 1 << 60, api.ErrBudget},
	} {
		if err := quota.Check(q, c.keys, c.bytes, c.charged, c.cost); err != c.want {
			t.Errorf("Check(%v, %d, %d, %d, %d) is %v, not %v", q, c.keys, c.bytes, c.charged, c.cost, err, c.want)
		}
	}
}

// P13.2: where several are more, keys are told ahead of bytes, and these ahead of the budget.
func TestCheckTellsTheFirst(t *testing.T) {
	q := api.Quota{Keys: 1, Bytes: 1, Budget: 1}
	for bits := range 8 {
		keys, bytes, charged := int64(1+bits&1), int64(1+bits>>1&1), int64(1+bits>>2&1)
		want := []error{nil, api.ErrKeys, api.ErrBytes, api.ErrKeys, api.ErrBudget, api.ErrKeys, api.ErrBytes, api.ErrKeys}[bits]
		if err := quota.Check(q, keys, bytes, charged, 0); err != want {
			t.Errorf("Check(%v, %d, %d, %d, 0) is %v, not %v", q, keys, bytes, charged, err, want)
		}
		if err := quota.Check(q, keys, bytes, 0, charged); err != want {
			t.Errorf("Check(%v, %d, %d, 0, %d) is %v, not %v", q, keys, bytes, charged, err, want)
		}
	}
}

// P13.2: of a quota of nothing nothing is all that there may be.
func TestCheckOfNoQuota(t *testing.T) {
	for _, c := range []struct {
		keys, bytes, charged, cost int64
		want                       error
	}{{0, 0, 0, 0, nil}, {1, 0, 0, 0, api.ErrKeys}, {0, 1, 0, 0, api.ErrBytes}, {0, 0, 1, 0, api.ErrBudget}, {0, 0, 0, 1, api.ErrBudget}} {
		if err := quota.Check(api.Quota{}, c.keys, c.bytes, c.charged, c.cost); err != c.want {
			t.Errorf("Check({}, %d, %d, %d, %d) is %v, not %v", c.keys, c.bytes, c.charged, c.cost, err, c.want)
		}
	}
}

// P13.2: each choice of edges, of numbers and bounds from 0 to 2^60: charged and cost together may be more than that.
func TestCheckAtEdges(t *testing.T) {
	for _, bound := range numbers {
		for _, n := range numbers {
			for _, more := range numbers {
				holdCheck(t, api.Quota{Keys: bound, Bytes: more}, n, 0, 0, 0)
				holdCheck(t, api.Quota{Keys: more, Bytes: bound}, 0, n, 0, 0)
				holdCheck(t, api.Quota{Budget: bound}, 0, 0, n, more)
				holdCheck(t, api.Quota{Keys: n, Bytes: more, Budget: bound}, n, more, n, more)
				holdCheck(t, api.Quota{Keys: bound, Bytes: bound, Budget: bound}, n, more, more, n)
			}
		}
	}
}

// P13.2: an error is the Code itself, and no error is nil.
func TestErrorsAreCodes(t *testing.T) {
	for _, c := range []struct {
		keys, bytes, cost int64
		want              api.Code
	}{{1, 1, 1, api.ErrKeys}, {0, 1, 1, api.ErrBytes}, {0, 0, 1, api.ErrBudget}} {
		var code api.Code
		err := quota.Check(api.Quota{}, c.keys, c.bytes, 0, c.cost)
		if err != error(c.want) || !errors.As(err, &code) || code != c.want {
			t.Errorf("Check is %v, not %v itself", err, c.want)
		}
	}
	if err := quota.Check(api.Quota{}, 0, 0, 0, 0); err != nil {
		t.Errorf("Check is %v, not nil", err)
	}
}

// holdNeverLess holds that with one more budget, at each place, or with a greater one, or a greater sum of the administrator's, no less is reserved, and nothing more is admitted. (None of all is below 0.)
func holdNeverLess(t *testing.T, l []int64, admin, n int64) {
	t.Helper()
	was := quota.Reserve(l, admin)
	hold := func(greater []int64, admin int64) {
		t.Helper()
		now := quota.Reserve(greater, admin)
		if now < was {
			t.Fatalf("Reserve(%d, %d) is %d, less than %d of %d", greater, admin, now, was, l)
		}
		for _, capacity := range []int64{was - 1, now - 1} {
			if quota.Admits(int(capacity), greater, admin) {
				t.Fatalf("Admits(%d, %d, %d) is true, and of %d the reserve is %d", capacity, greater, admin, l, was)
			}
		}
	}
	hold(l, max(admin, n))
	for i := range len(l) + 1 {
		hold(slices.Insert(slices.Clone(l), i, n), admin)
	}
	for i := range l {
		greater := slices.Clone(l)
		greater[i] = max(l[i], n)
		hold(greater, admin)
	}
}

// P13.3: at the edges, where there is no greater number.
func TestReservesNeverLess(t *testing.T) {
	notBelow := slices.DeleteFunc(slices.Clone(edges), func(n int64) bool { return n < 0 })
	for _, x := range notBelow {
		for _, y := range notBelow {
			for _, n := range notBelow {
				holdNeverLess(t, nil, x, n)
				holdNeverLess(t, []int64{x}, y, n)
				holdNeverLess(t, []int64{x, y}, 0, n)
				holdNeverLess(t, []int64{0, x, y}, x, n)
			}
		}
	}
}

// P13.3: one more budget never reserves less either where one of all is below 0.
func TestOneMoreBelowZero(t *testing.T) {
	for _, x := range edges {
		for _, y := range edges {
			for _, n := range edges {
				if was, now := quota.Reserve([]int64{x}, y), quota.Reserve([]int64{x, n}, y); now < was {
					t.Fatalf("Reserve({%d %d}, %d) is %d, less than %d", x, n, y, now, was)
				}
			}
		}
	}
}

// The budgets stay as they are, and what lies behind them in their memory too.
func TestHandedInStays(t *testing.T) {
	was := []int64{3, 1, 2, -1, math.MaxInt64, 7}
	all := slices.Clone(was)
	for count := range len(all) + 1 {
		quota.Reserve(all[:count], 5)
		quota.Admits(20000, all[:count], 5)
		if !slices.Equal(all, was) {
			t.Fatalf("%d became %d", was, all)
		}
	}
}

// Nothing is kept from call to call.
func TestNothingIsKept(t *testing.T) {
	for range 3 {
		if n := quota.Reserve([]int64{1}, 2); n != 10006 {
			t.Fatalf("the reserve is %d, not 10006", n)
		}
		quota.Reserve([]int64{math.MaxInt64}, -1)
		quota.Admits(1, []int64{500}, 500)
		if err := quota.Check(api.Quota{Budget: 3}, 0, 0, 1, 2); err != nil {
			t.Fatal(err)
		}
		quota.Check(api.Quota{}, 9, 9, 9, 9)
	}
}

// P1: the calls end, and don't panic, also at numbers of which the chapter promises nothing.
func TestCallsOfAny(t *testing.T) {
	for _, x := range edges {
		for _, y := range edges {
			quota.May(api.Quota{Keys: x, Bytes: y, Budget: x})
			for _, z := range edges {
				quota.Admits(int(x), []int64{y, z}, z)
				quota.Check(api.Quota{Keys: x, Bytes: x, Budget: x}, 0, 0, y, z)
				quota.Check(api.Quota{Keys: x, Bytes: y, Budget: z}, y, z, x, y)
			}
		}
	}
}
