package quota_test

import (
	"math"
	"math/big"
	"math/rand"
	"slices"
	"testing"

	"hassock/api"
	"hassock/quota"
)

// modelReserve is the reserve by the chapter's words, written apart: with numbers of any length.
func modelReserve(budgets []int64, admin int64) int64 {
	all := append(slices.Clone(budgets), admin)
	if slices.Min(all) < 0 {
		return math.MaxInt64
	}
	sum := new(big.Int)
	for _, n := range all {
		sum.Add(sum, big.NewInt(n))
	}
	reserve := sum.Mul(sum, big.NewInt(2))
	reserve.Add(reserve, big.NewInt(10000))
	if !reserve.IsInt64() {
		return math.MaxInt64
	}
	return reserve.Int64()
}

// isMore tells whether numbers, together, are more than a bound.
func isMore(bound int64, l ...int64) bool {
	sum := new(big.Int)
	for _, n := range l {
		sum.Add(sum, big.NewInt(n))
	}
	return sum.Cmp(big.NewInt(bound)) > 0
}

// modelCheck is a check by the chapter's words, written apart.
func modelCheck(q api.Quota, keys, bytes, charged, cost int64) error {
	if isMore(q.Keys, keys) {
		return api.ErrKeys
	}
	if isMore(q.Bytes, bytes) {
		return api.ErrBytes
	}
	if isMore(q.Budget, charged, cost) {
		return api.ErrBudget
	}
	return nil
}

// holdReserve holds the reserve against the model's, what is admitted against the reserve, and that the budgets are as they were.
func holdReserve(t *testing.T, budgets []int64, admin int64) {
	t.Helper()
	was := slices.Clone(budgets)
	want := modelReserve(budgets, admin)
	if n := quota.Reserve(budgets, admin); n != want {
		t.Fatalf("Reserve(%d, %d) is %d, not %d", budgets, admin, n, want)
	}
	for _, capacity := range []int64{want, want - 1, want - want/2, 0, -1, math.MinInt64, math.MaxInt64 - 1, math.MaxInt64} {
		if is := quota.Admits(int(capacity), budgets, admin); is != (want <= capacity) {
			t.Fatalf("Admits(%d, %d, %d) is %t, and the reserve is %d", capacity, budgets, admin, is, want)
		}
	}
	if want < math.MaxInt64 && !quota.Admits(int(want+1), budgets, admin) {
		t.Fatalf("Admits(%d, %d, %d) is false, and the reserve is %d", want+1, budgets, admin, want)
	}
	if !slices.Equal(budgets, was) {
		t.Fatalf("the budgets %d became %d", was, budgets)
	}
}

// holdCheck holds a check against the model's.
func holdCheck(t *testing.T, q api.Quota, keys, bytes, charged, cost int64) {
	t.Helper()
	if err, want := quota.Check(q, keys, bytes, charged, cost), modelCheck(q, keys, bytes, charged, cost); err != want {
		t.Fatalf("Check(%v, %d, %d, %d, %d) is %v, not %v", q, keys, bytes, charged, cost, err, want)
	}
}

// randomNumber is one of at most so many bits, each number of bits alike; with minus, one time in fifty it is below 0.
func randomNumber(r *rand.Rand, bits int, minus bool) int64 {
	n := r.Int63() >> (63 - r.Intn(bits+1))
	if minus && r.Intn(50) == 0 {
		return -n - 1
	}
	return n
}

// randomBudgets are at most so many.
func randomBudgets(r *rand.Rand, most, bits int, minus bool) []int64 {
	l := make([]int64, r.Intn(most+1))
	for i := range l {
		l[i] = randomNumber(r, bits, minus)
	}
	return l
}

// P13.1
func TestRandomReserves(t *testing.T) {
	r := rand.New(rand.NewSource(13))
	for range 20000 {
		bits := []int{10, 41, 60, 63}[r.Intn(4)]
		minus := r.Intn(2) == 0
		holdReserve(t, randomBudgets(r, 12, bits, minus), randomNumber(r, bits, minus))
	}
}

// P13.1: reserves whose sums are about the greatest one, in any number of parts.
func TestRandomReservesAboutTheGreatest(t *testing.T) {
	r := rand.New(rand.NewSource(14))
	for range 5000 {
		left := greatest + r.Int63n(7) - 3
		var l []int64
		for range r.Intn(10) {
			n := r.Int63n(left + 1)
			l = append(l, n)
			left -= n
		}
		l = append(l, left)
		r.Shuffle(len(l), func(i, j int) { l[i], l[j] = l[j], l[i] })
		holdReserve(t, l[1:], l[0])
	}
}

// P13.2: the three bounds are the numbers, or a little more or less, or any.
func TestRandomChecks(t *testing.T) {
	r := rand.New(rand.NewSource(15))
	near := func(n int64) int64 {
		if r.Intn(8) == 0 {
			return randomNumber(r, 60, false)
		}
		return max(0, n+r.Int63n(3)-1)
	}
	for range 50000 {
		keys, bytes := randomNumber(r, 60, false), randomNumber(r, 60, false)
		charged, cost := randomNumber(r, 60, false), randomNumber(r, 60, false)
		q := api.Quota{Keys: near(keys), Bytes: near(bytes), Budget: near(charged + cost)}
		holdCheck(t, q, keys, bytes, charged, cost)
	}
}

// P13.3: one more budget, or a greater one, or a greater sum of the administrator's, at each place.
func TestRandomReservesNeverLess(t *testing.T) {
	r := rand.New(rand.NewSource(16))
	for range 5000 {
		bits := []int{10, 41, 60, 63}[r.Intn(4)]
		l, admin := randomBudgets(r, 8, bits, false), randomNumber(r, bits, false)
		holdNeverLess(t, l, admin, randomNumber(r, bits, false))
	}
}
