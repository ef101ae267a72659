package plan_test

import (
	"math"
	"testing"

	"hassock/api"
)

// tokens are so many tokens, by serials from 1 on.
func tokens(many int) []api.Record {
	var l []api.Record
	for i := range many {
		l = append(l, tokenOf(uint32(i+1), 1, 5))
	}
	return l
}

// P17.3: a token of the next serial, of this bucket, with the rights that are asked for, and the secret.
func TestMint(t *testing.T) {
	for _, serial := range []uint32{0, 1, 2, 255, 1 << 16, math.MaxInt32, math.MaxUint32 - 1} {
		for _, secret := range []uint64{0, 1, 1 << 63, math.MaxUint64} {
			p := with(much, metaOf(much, 9, serial))
			p.mint(t, 3, 7, secret, tokenOf(serial, 3, secret), 0)
		}
	}
	for _, id := range []int{0, 63} {
		p := &past{id: id, gen: math.MaxUint32, quota: much}
		p.mint(t, 5, 5, 8, api.Record{Kind: 5, Bucket: id, Gen: math.MaxUint32, Serial: 1, Rights: 5, Secret: 8}, 0)
	}
}

// P17.3: the next serial is behind those that were, not the first free one.
func TestMintBehindTokens(t *testing.T) {
	p := with(much, tokenOf(1, 7, 1), tokenOf(2, 7, 2), tokenOf(9, 7, 3), revokeOf(9), revokeOf(2))
	p.mint(t, 7, 7, 4, tokenOf(10, 7, 4), 0)
}

// P17.3: each of the rights must be one of the token's own.
func TestMintWithinRights(t *testing.T) {
	p := with(much)
	for own := range 8 {
		for _, rights := range []int{math.MinInt, -8, -1, 0, 8, 9, 15, 255, 1 << 32, math.MaxInt} {
			p.mint(t, rights, own, 1, api.Record{}, api.ErrDenied)
		}
		for rights := 1; rights < 8; rights++ {
			denied := false
			for bit := 1; bit < 8; bit *= 2 {
				denied = denied || rights/bit%2 > own/bit%2
			}
			if denied {
				p.mint(t, rights, own, 1, api.Record{}, api.ErrDenied)
			} else {
				p.mint(t, rights, own, 1, tokenOf(1, rights, 1), 0)
			}
		}
	}
}

// P17.3
func TestMintOfTheLastToken(t *testing.T) {
	p := with(much, tokens(99)...)
	p.mint(t, 1, 1, 2, tokenOf(100, 1, 2), 0)
	p.apply(tokenOf(100, 1, 2))
	p.mint(t, 1, 1, 2, api.Record{}, api.ErrLarge)
	p.apply(revokeOf(50))
	p.mint(t, 1, 1, 2, tokenOf(101, 1, 2), 0)
	// Also where the next serial is one that is there, whose token it would be put for.
	p.apply(tokenOf(50, 1, 2), metaOf(much, 1, 50))
	p.mint(t, 1, 1, 2, api.Record{}, api.ErrLarge)
	p.apply(revokeOf(7))
	p.mint(t, 1, 1, 2, tokenOf(50, 1, 2), 0)
}

// P17.3
func TestMintOfTheGreatestSerial(t *testing.T) {
	with(much, metaOf(much, 1, math.MaxUint32)).mint(t, 1, 1, 2, api.Record{}, api.ErrLimit)
	with(much, tokenOf(math.MaxUint32-1, 1, 1)).mint(t, 1, 1, 2, api.Record{}, api.ErrLimit)
	with(much, tokenOf(math.MaxUint32, 1, 1)).mint(t, 1, 1, 2, api.Record{}, api.ErrLimit)
	with(much, tokenOf(math.MaxUint32-2, 1, 1)).mint(t, 1, 1, 2, tokenOf(math.MaxUint32-1, 1, 2), 0)
	with(much, metaOf(much, math.MaxUint64, 3)).mint(t, 1, 1, 2, tokenOf(3, 1, 2), 0)
}

// P17.3: the charge with the cost alone is looked at, not keys and bytes.
func TestMintChecks(t *testing.T) {
	with(quotaOf(0, 0, tokenCost)).mint(t, 1, 1, 2, tokenOf(1, 1, 2), 0)
	with(quotaOf(1<<40, 1<<40, tokenCost-1)).mint(t, 1, 1, 2, api.Record{}, api.ErrBudget)
	of(quotaOf(0, 0, charged+tokenCost)).mint(t, 1, 1, 2, tokenOf(1, 1, 2), 0)
	of(quotaOf(0, 0, charged+tokenCost-1)).mint(t, 1, 1, 2, api.Record{}, api.ErrBudget)
	of(quotaOf(0, 0, 0)).mint(t, 1, 1, 2, api.Record{}, api.ErrBudget)
}

// P17.3: of several errors the one that is named first.
func TestMintFirstError(t *testing.T) {
	l := append(tokens(100), metaOf(api.Quota{}, 1, math.MaxUint32))
	with(much, l...).mint(t, 2, 1, 2, api.Record{}, api.ErrDenied)
	with(much, l...).mint(t, 1, 1, 2, api.Record{}, api.ErrLarge)
	p := with(much, append(l, revokeOf(1))...)
	p.mint(t, 1, 1, 2, api.Record{}, api.ErrLimit)
	p.mint(t, 0, 7, 2, api.Record{}, api.ErrDenied)
	p.apply(metaOf(api.Quota{}, 1, 101))
	p.mint(t, 1, 1, 2, api.Record{}, api.ErrBudget)
	p.mint(t, 1, 2, 2, api.Record{}, api.ErrDenied)
	p.apply(tokenOf(1, 1, 1))
	p.mint(t, 1, 1, 2, api.Record{}, api.ErrLarge)
}

// P17.3
func TestRevoke(t *testing.T) {
	serials := []uint32{0, 1, 2, 9, 255, 1 << 16, math.MaxInt32, math.MaxUint32 - 1, math.MaxUint32}
	for i, serial := range serials {
		p := with(much, tokenOf(serial, 1, 2))
		for j, other := range serials {
			if i == j {
				p.revoke(t, other, revokeOf(serial), 0)
			} else {
				p.revoke(t, other, api.Record{}, api.ErrNone)
			}
		}
		p.apply(revokeOf(serial))
		p.revoke(t, serial, api.Record{}, api.ErrNone)
	}
	p := with(much, tokens(100)...)
	for serial := range uint32(102) {
		if serial >= 1 && serial <= 100 {
			p.revoke(t, serial, revokeOf(serial), 0)
		} else {
			p.revoke(t, serial, api.Record{}, api.ErrNone)
		}
	}
	for _, id := range []int{0, 63} {
		p := &past{id: id, gen: math.MaxUint32, quota: much}
		p.apply(api.Record{Kind: api.RToken, Bucket: id, Gen: math.MaxUint32, Serial: 1, Rights: 5})
		p.revoke(t, 1, api.Record{Kind: 6, Bucket: id, Gen: math.MaxUint32, Serial: 1}, 0)
	}
}

// P17.3: likewise, and ErrNone ahead of it.
func TestRevokeChecks(t *testing.T) {
	with(quotaOf(0, 0, tokenCost+revokeCost), tokenOf(1, 1, 2)).revoke(t, 1, revokeOf(1), 0)
	with(quotaOf(1<<40, 1<<40, tokenCost+revokeCost-1), tokenOf(1, 1, 2)).revoke(t, 1, api.Record{}, api.ErrBudget)
	p := of(quotaOf(0, 0, charged+tokenCost+revokeCost))
	p.apply(tokenOf(1, 1, 2))
	p.revoke(t, 1, revokeOf(1), 0)
	p.apply(metaOf(quotaOf(0, 0, charged+tokenCost+revokeCost-1), 1, 2))
	p.revoke(t, 1, api.Record{}, api.ErrBudget)
	p.revoke(t, 2, api.Record{}, api.ErrNone)
}
