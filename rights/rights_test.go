package rights_test

import (
	"errors"
	"math"
	"slices"
	"testing"

	"hassock/api"
	"hassock/record"
	"hassock/rights"
)

// serials are edges of what a serial may be, rising: as numbers without a sign.
var serials = []uint32{0, 1, 2, 9, 10, 255, 256, math.MaxInt32, math.MaxInt32 + 1, math.MaxUint32 - 1, math.MaxUint32}

// secrets are edges of what a secret may be; some have their lowest or highest halves alike.
var secrets = []uint64{0, 1, 2, math.MaxUint32, math.MaxUint32 + 1, 1<<32 + 2, math.MaxInt64, 1 << 63, 1<<63 + 1, math.MaxUint64}

// noRights are numbers that aren't 1 to CanAll, some of them with bits of those.
var noRights = []int{0, -1, -2, -7, -8, 8, 9, 15, 16, 256 + 1, 1<<32 + 1, math.MaxInt64, math.MinInt64, math.MinInt64 + 1}

// put puts a token that may be put.
func put(t *testing.T, x *rights.Table, serial uint32, r int, secret uint64) {
	t.Helper()
	if err := x.Put(serial, r, secret); err != nil {
		t.Fatalf("Put(%d, %d, %d) is %v", serial, r, secret, err)
	}
}

// full is a table of as many tokens as it may have: of serials 3, 6 and so on, with their serials as secrets.
func full(t *testing.T) (*rights.Table, model) {
	t.Helper()
	x, m := rights.New(), model{}
	for n := 3; n <= 3*100; n += 3 {
		holdPut(t, x, &m, uint32(n), 1+n%7, uint64(n))
	}
	hold(t, x, m)
	return x, m
}

// P12.1
func TestNewTable(t *testing.T) {
	x := rights.New()
	hold(t, x, nil)
	for _, serial := range serials {
		for _, secret := range secrets {
			if r := x.Rights(serial, secret); r != 0 {
				t.Errorf("Rights(%d, %d) of no token are %d", serial, secret, r)
			}
		}
		if x.Revoke(serial) {
			t.Errorf("Revoke(%d) of no token is true", serial)
		}
	}
	hold(t, x, nil)
	put(t, x, 1, api.CanRead, 1)
	hold(t, rights.New(), nil)
	hold(t, x, model{{1, api.CanRead, 1}})
}

// P12.1: each rights, serial and secret is kept as it was put.
func TestPutThenRights(t *testing.T) {
	for r := 1; r <= api.CanAll; r++ {
		for _, serial := range serials {
			for _, secret := range secrets {
				x := rights.New()
				put(t, x, serial, r, secret)
				hold(t, x, model{{serial, r, secret}})
				for _, other := range secrets {
					holdRights(t, x, model{{serial, r, secret}}, serial, other)
				}
				for _, other := range serials {
					holdRights(t, x, model{{serial, r, secret}}, other, secret)
				}
			}
		}
	}
}

// P12.1: what aren't rights is refused, whether the serial is there or not, and changes nothing.
func TestPutOfNoRights(t *testing.T) {
	x, m := rights.New(), model{}
	holdPut(t, x, &m, 5, api.CanWrite, 50)
	for _, r := range noRights {
		for _, serial := range []uint32{0, 5, 6} {
			for _, secret := range []uint64{0, 50, 60} {
				if err := x.Put(serial, r, secret); err != api.ErrArg {
					t.Errorf("Put(%d, %d, %d) is %v, not ErrArg", serial, r, secret, err)
				}
				hold(t, x, m)
			}
		}
	}
}

// P12.1: an error is the Code itself.
func TestErrorsAreCodes(t *testing.T) {
	x, _ := full(t)
	for _, c := range []struct {
		rights int
		want   api.Code
	}{{0, api.ErrArg}, {1, api.ErrLarge}} {
		var code api.Code
		err := x.Put(1, c.rights, 1)
		if err != error(c.want) || !errors.As(err, &code) || code != c.want {
			t.Errorf("Put of rights %d is %v, not %v itself", c.rights, err, c.want)
		}
	}
}

// P12.1: there is one token of a serial, the one that was put last.
func TestPutOnceMore(t *testing.T) {
	x, m := rights.New(), model{}
	holdPut(t, x, &m, 7, api.CanAll, 70)
	holdPut(t, x, &m, 8, api.CanMint, 70)
	for _, next := range []token{{7, api.CanRead, 70}, {7, api.CanRead, 71}, {7, api.CanMint, 0}, {7, api.CanMint, 0}, {7, api.CanAll, 70}} {
		holdPut(t, x, &m, next.serial, next.rights, next.secret)
		hold(t, x, m)
		for _, secret := range []uint64{0, 70, 71} {
			holdRights(t, x, m, 7, secret)
			holdRights(t, x, m, 8, secret)
		}
	}
	if n := x.Len(); n != 2 {
		t.Errorf("Len is %d, not 2", n)
	}
}

// P12.1: of a hundred and first serial there is no token, and the hundred are as they were.
func TestPutIntoAFullTable(t *testing.T) {
	x, m := full(t)
	if n := x.Len(); n != 100 || api.MaxTokens != 100 {
		t.Fatalf("Len is %d, not 100", n)
	}
	for _, serial := range []uint32{0, 1, 4, 299, 301, math.MaxUint32} {
		for r := 1; r <= api.CanAll; r++ {
			if err := x.Put(serial, r, uint64(serial)); err != api.ErrLarge {
				t.Errorf("Put(%d, %d, ..) is %v, not ErrLarge", serial, r, err)
			}
		}
		holdRights(t, x, m, serial, uint64(serial))
		hold(t, x, m)
	}
}

// P12.1: of a full table too what aren't rights is ErrArg: it is named first.
func TestNoRightsAreToldFirst(t *testing.T) {
	x, m := full(t)
	for _, r := range noRights {
		for _, serial := range []uint32{0, 1, 3, 300, 301} {
			if err := x.Put(serial, r, 1); err != api.ErrArg {
				t.Errorf("Put(%d, %d, 1) is %v, not ErrArg", serial, r, err)
			}
		}
	}
	hold(t, x, m)
}

// P12.1: a full table takes another token of a serial that it has.
func TestPutOnceMoreIntoAFullTable(t *testing.T) {
	x, m := full(t)
	for _, serial := range []uint32{3, 150, 300} {
		holdPut(t, x, &m, serial, api.CanMint, 9999)
		hold(t, x, m)
		holdRights(t, x, m, serial, 9999)
		holdRights(t, x, m, serial, uint64(serial))
	}
}

// P12.1: a token that is revoked makes room for one, whatever its serial is; one that wasn't there makes none.
func TestRevokedMakesRoom(t *testing.T) {
	x, m := full(t)
	for n := range uint32(20) {
		holdRevoke(t, x, &m, 3*n+1)
		if err := x.Put(1000+n, api.CanRead, 1); err != api.ErrLarge {
			t.Fatalf("Put into a full table is %v, not ErrLarge", err)
		}
		holdRevoke(t, x, &m, 3*n+3)
		hold(t, x, m)
		holdPut(t, x, &m, 1000+n, api.CanRead, 1)
		hold(t, x, m)
	}
	if err := x.Put(0, api.CanRead, 1); err != api.ErrLarge {
		t.Errorf("Put into a table that is full again is %v, not ErrLarge", err)
	}
}

// P12.1: Revoke tells whether there was one; it is gone, and no other one is.
func TestRevoke(t *testing.T) {
	for _, gone := range serials {
		x, m := rights.New(), model{}
		for i, serial := range serials {
			holdPut(t, x, &m, serial, 1+i%7, uint64(i))
		}
		holdRevoke(t, x, &m, gone)
		hold(t, x, m)
		for range 2 {
			if x.Revoke(gone) {
				t.Errorf("Revoke(%d) once more is true", gone)
			}
			hold(t, x, m)
		}
		for i, serial := range serials {
			holdRights(t, x, m, serial, uint64(i))
		}
	}
}

// P12.1: one may be revoked with any rights and any secret, also those that are 0.
func TestRevokeOfAny(t *testing.T) {
	for r := 1; r <= api.CanAll; r++ {
		for _, secret := range secrets {
			x := rights.New()
			put(t, x, 0, r, secret)
			if x.Revoke(1) || !x.Revoke(0) || x.Revoke(0) {
				t.Errorf("rights %d, secret %d: it isn't revoked just once", r, secret)
			}
			hold(t, x, nil)
		}
	}
}

// P12.1: all are told by rising serials, in whatever order they were put.
func TestAllRise(t *testing.T) {
	back := slices.Clone(serials)
	slices.Reverse(back)
	for turn := range serials {
		for _, from := range [][]uint32{serials, back} {
			x := rights.New()
			for _, serial := range slices.Concat(from[turn:], from[:turn]) {
				put(t, x, serial, 1+int(serial%7), uint64(serial)<<20)
			}
			l := x.All()
			if len(l) != len(serials) {
				t.Fatalf("All has %d records, not %d", len(l), len(serials))
			}
			for i, serial := range serials {
				if l[i].Serial != serial || l[i].Rights != 1+int(serial%7) || l[i].Secret != uint64(serial)<<20 {
					t.Errorf("at %d it is %v, not that of serial %d", i, l[i], serial)
				}
			}
		}
	}
}

// P12.1: what All tells are records that may be, of bucket 0 and Gen 1, with no field that isn't a token's.
func TestAllAreRecords(t *testing.T) {
	x, _ := full(t)
	for _, r := range x.All() {
		want := api.Record{Kind: api.RToken, Bucket: 0, Gen: 1, Serial: r.Serial, Rights: 1 + int(r.Serial)%7, Secret: uint64(r.Serial)}
		if r != want || !record.May(r) {
			t.Errorf("All has %v, not %v", r, want)
		}
	}
	y := rights.New()
	put(t, y, 0, api.CanWrite, 0)
	if l, want := y.All(), (api.Record{Kind: 5, Gen: 1, Rights: 2}); len(l) != 1 || l[0] != want {
		t.Errorf("All are %v, not %v alone", l, want)
	}
}

// P12.1, P12.3: what is told of a table, put into another, makes the same.
func TestAllPutAnew(t *testing.T) {
	x, m := full(t)
	y := rights.New()
	for _, r := range x.All() {
		put(t, y, r.Serial, r.Rights, r.Secret)
	}
	hold(t, y, m)
}

// R2: what is told is new memory: what is done to it changes no table.
func TestToldIsNew(t *testing.T) {
	x, m := rights.New(), model{}
	holdPut(t, x, &m, 2, api.CanRead, 20)
	holdPut(t, x, &m, 1, api.CanAll, 10)
	l := x.All()
	for i := range l {
		l[i] = api.Record{Serial: 9, Rights: 99, Secret: 999}
	}
	_ = append(l[:0], api.Record{})
	hold(t, x, m)
	holdRights(t, x, m, 1, 10)
	holdRights(t, x, m, 2, 20)
	holdRights(t, x, m, 9, 999)
}

// R2: what is done to a table changes nothing that was told.
func TestToldStays(t *testing.T) {
	x := rights.New()
	put(t, x, 2, api.CanRead, 20)
	put(t, x, 1, api.CanAll, 10)
	l := x.All()
	was := slices.Clone(l)
	put(t, x, 1, api.CanMint, 11)
	put(t, x, 0, api.CanMint, 1)
	x.Revoke(2)
	x.All()
	if !slices.Equal(l, was) {
		t.Errorf("what was told became %v", l)
	}
}

// P12.1: no table has anything of another.
func TestTwoTables(t *testing.T) {
	x, y := rights.New(), rights.New()
	put(t, x, 1, api.CanRead, 10)
	put(t, y, 1, api.CanWrite, 11)
	put(t, y, 2, api.CanMint, 20)
	hold(t, x, model{{1, api.CanRead, 10}})
	y.Revoke(1)
	hold(t, x, model{{1, api.CanRead, 10}})
	hold(t, y, model{{2, api.CanMint, 20}})
	other, _ := full(t)
	put(t, x, 3, api.CanAll, 30)
	hold(t, x, model{{1, api.CanRead, 10}, {3, api.CanAll, 30}})
	if n := other.Len(); n != api.MaxTokens {
		t.Errorf("Len is %d, not %d", n, api.MaxTokens)
	}
}

// P12.3: it has its rights with its secret alone: no other one, however near, and no other token's.
func TestSecretAlone(t *testing.T) {
	secret := uint64(0x0123456789ABCDEF)
	x, m := rights.New(), model{}
	holdPut(t, x, &m, 4, api.CanAll, secret)
	holdPut(t, x, &m, 5, api.CanRead, 0)
	holdPut(t, x, &m, 6, api.CanWrite, secret+1)
	for bit := range 64 {
		if r := x.Rights(4, secret^1<<bit); r != 0 {
			t.Errorf("with bit %d of its secret turned it has rights %d", bit, r)
		}
		holdRights(t, x, m, 5, 1<<bit)
	}
	for serial := uint32(3); serial <= 7; serial++ {
		for _, s := range []uint64{0, secret - 1, secret, secret + 1, ^secret, secret << 32, secret >> 32, secret & math.MaxUint32} {
			holdRights(t, x, m, serial, s)
		}
	}
}

// P12.3: it keeps its rights, whatever is asked, refused, put or revoked of others, till it is revoked; and put anew it has the new ones alone.
func TestTillRevoked(t *testing.T) {
	x := rights.New()
	put(t, x, 50, api.CanRead|api.CanMint, 77)
	holdIt := func(r int, secret uint64) {
		t.Helper()
		if got := x.Rights(50, secret); got != r {
			t.Fatalf("Rights(50, %d) are %d, not %d", secret, got, r)
		}
	}
	for n := range uint32(300) {
		if n != 50 {
			x.Put(n, 1+int(n)%7, 77)
		}
		x.Put(50, 0, 78)
		x.Put(50, 8, 78)
		x.Rights(50, 78)
		x.Rights(n+1, 77)
		x.All()
		if n%3 == 0 && n != 51 {
			x.Revoke(n + 999)
			x.Revoke(n - 1)
		}
		holdIt(5, 77)
	}
	x.Revoke(50)
	holdIt(0, 77)
	holdIt(0, 0)
	put(t, x, 50, api.CanWrite, 79)
	holdIt(0, 77)
	holdIt(2, 79)
}

// P12.2: the chapter's example.
func TestExample(t *testing.T) {
	if !rights.Within(api.CanRead|api.CanWrite, api.CanAll) {
		t.Error("read and write, of all, aren't within")
	}
}

// P12.2: which rights are within which, written out: of 0, of 1 and so on, and in each row rights 0 to 8.
func TestWithin(t *testing.T) {
	for of, row := range []string{
		"nnnnnnnnn",
		"nynnnnnnn",
		"nnynnnnnn",
		"nyyynnnnn",
		"nnnnynnnn",
		"nynnyynnn",
		"nnynynynn",
		"nyyyyyyyn",
	} {
		for r := range row {
			if within := rights.Within(r, of); within != (row[r] == 'y') {
				t.Errorf("Within(%d, %d) is %t", r, of, within)
			}
		}
	}
}

// P12.2: what aren't rights isn't within any, not even of all.
func TestNoRightsWithin(t *testing.T) {
	for of := range api.CanAll + 1 {
		for _, r := range noRights {
			if rights.Within(r, of) {
				t.Errorf("Within(%d, %d) is true", r, of)
			}
		}
		for r := -300; r <= 300; r++ {
			if within := rights.Within(r, of); within != isWithin(r, of) {
				t.Errorf("Within(%d, %d) is %t", r, of, within)
			}
		}
	}
}

// P1: it ends, and doesn't panic, whatever it is asked.
func TestWithinOfAny(t *testing.T) {
	for _, of := range append([]int{1, 7}, noRights...) {
		for _, r := range append([]int{1, 7}, noRights...) {
			rights.Within(r, of)
		}
	}
}
