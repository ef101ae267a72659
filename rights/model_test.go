package rights_test

import (
	"math"
	"math/rand"
	"testing"

	"hassock/api"
	"hassock/rights"
)

// token is one, as it was put.
type token struct {
	serial uint32
	rights int
	secret uint64
}

// model is what a table has, written apart: its tokens, in any order.
type model []token

// at is where the token of a serial is, or -1: all are looked at.
func (m model) at(serial uint32) int {
	for i, x := range m {
		if x.serial == serial {
			return i
		}
	}
	return -1
}

func (m *model) put(x token) error {
	at := m.at(x.serial)
	switch {
	case x.rights < 1 || x.rights > 7:
		return api.ErrArg
	case at >= 0:
		(*m)[at] = x
	case len(*m) == 100:
		return api.ErrLarge
	default:
		*m = append(*m, x)
	}
	return nil
}

func (m *model) revoke(serial uint32) bool {
	at := m.at(serial)
	if at < 0 {
		return false
	}
	last := len(*m) - 1
	(*m)[at] = (*m)[last]
	*m = (*m)[:last]
	return true
}

func (m model) rights(serial uint32, secret uint64) int {
	for _, x := range m {
		if x.serial == serial && x.secret == secret {
			return x.rights
		}
	}
	return 0
}

// isWithin tells of rights by the chapter's words, written apart: bit by bit, as two to its place.
func isWithin(r, of int) bool {
	if r < 1 || r > 7 {
		return false
	}
	for _, right := range []int{1, 2, 4} {
		if r/right%2 == 1 && of/right%2 == 0 {
			return false
		}
	}
	return true
}

// hold holds all that a table tells against a model: how many there are, and each token, in its place and with its secret.
func hold(t *testing.T, x *rights.Table, m model) {
	t.Helper()
	if n := x.Len(); n != len(m) {
		t.Fatalf("Len is %d, not %d", n, len(m))
	}
	l := x.All()
	if len(l) != len(m) {
		t.Fatalf("All has %d records, not %d: %v", len(l), len(m), l)
	}
	for _, y := range m {
		lesser := 0
		for _, z := range m {
			if z.serial < y.serial {
				lesser++
			}
		}
		if want := (api.Record{Kind: api.RToken, Gen: 1, Serial: y.serial, Rights: y.rights, Secret: y.secret}); l[lesser] != want {
			t.Fatalf("All has %v at %d, not %v", l[lesser], lesser, want)
		}
		if r := x.Rights(y.serial, y.secret); r != y.rights {
			t.Fatalf("Rights(%d, %d) are %d, not %d", y.serial, y.secret, r, y.rights)
		}
	}
}

// holdPut puts into both.
func holdPut(t *testing.T, x *rights.Table, m *model, serial uint32, r int, secret uint64) {
	t.Helper()
	if err, want := x.Put(serial, r, secret), m.put(token{serial, r, secret}); err != want {
		t.Fatalf("Put(%d, %d, %d) is %v, not %v", serial, r, secret, err, want)
	}
}

// holdRevoke revokes from both.
func holdRevoke(t *testing.T, x *rights.Table, m *model, serial uint32) {
	t.Helper()
	if was, want := x.Revoke(serial), m.revoke(serial); was != want {
		t.Fatalf("Revoke(%d) is %t, not %t", serial, was, want)
	}
}

// holdRights asks both for a token's rights.
func holdRights(t *testing.T, x *rights.Table, m model, serial uint32, secret uint64) {
	t.Helper()
	if r, want := x.Rights(serial, secret), m.rights(serial, secret); r != want {
		t.Fatalf("Rights(%d, %d) are %d, not %d", serial, secret, r, want)
	}
}

// randomSerial is one of so many, or of any.
func randomSerial(r *rand.Rand, many int) uint32 {
	if r.Intn(20) == 0 {
		return []uint32{r.Uint32(), 1 << 31, math.MaxUint32}[r.Intn(3)]
	}
	return uint32(r.Intn(many))
}

// randomSecret is one of few, or of any.
func randomSecret(r *rand.Rand) uint64 {
	if r.Intn(10) == 0 {
		return []uint64{r.Uint64(), 1 << 32, 1 << 63, math.MaxUint64}[r.Intn(4)]
	}
	return uint64(r.Intn(3))
}

// randomRights are some, or, one time in eight, none.
func randomRights(r *rand.Rand) int {
	if r.Intn(8) == 0 {
		return []int{0, 8, -1, -r.Intn(1 << 20), 8 + r.Intn(1<<40)}[r.Intn(5)]
	}
	return 1 + r.Intn(7)
}

// P12.1, P12.3: of few serials, of about as many as there may be, and of more.
func TestRandomScripts(t *testing.T) {
	r := rand.New(rand.NewSource(12))
	for _, many := range []int{1, 3, 20, 99, 100, 101, 130, 1000} {
		for range 20 {
			x, m := rights.New(), model{}
			puts := 3 + r.Intn(7) // of ten steps
			for range 400 {
				if r.Intn(10) < puts {
					holdPut(t, x, &m, randomSerial(r, many), randomRights(r), randomSecret(r))
				} else {
					holdRevoke(t, x, &m, randomSerial(r, many))
				}
				for range 3 {
					holdRights(t, x, m, randomSerial(r, many), randomSecret(r))
				}
				if r.Intn(10) == 0 {
					hold(t, x, m)
				}
			}
			hold(t, x, m)
		}
	}
}

// P12.1, P12.3: a table that is filled, over its end, and emptied, again and again.
func TestFilledAndEmptied(t *testing.T) {
	r := rand.New(rand.NewSource(13))
	x, m := rights.New(), model{}
	for range 5 {
		order := r.Perm(120)
		for _, n := range order {
			holdPut(t, x, &m, uint32(n), 1+n%7, uint64(n))
			hold(t, x, m)
		}
		if n := x.Len(); n != 100 {
			t.Fatalf("Len is %d, not 100", n)
		}
		for _, n := range r.Perm(120) {
			holdRevoke(t, x, &m, uint32(n))
			hold(t, x, m)
		}
		hold(t, x, nil)
	}
}
