package plan_test

import (
	"testing"

	"hassock/api"
	"hassock/command"
)

// of is a past of a bucket of this quota that has a with 2 bytes, b with 3 and c with 1.
func of(q api.Quota) *past {
	return with(much, putOf("a", "1", 1, 0), putOf("b", "22", 2, 0), putOf("c", "", 3, 0), metaOf(q, 4, 1))
}

// charged is what such a bucket is charged.
const charged = 3*putCost + 2 + 3 + 1

// quotaOf is a quota.
func quotaOf(keys, bytes, budget int64) api.Quota {
	return api.Quota{Keys: keys, Bytes: bytes, Budget: budget}
}

// holdLeast holds what the least quota is that admits some ops; of deletions alone keys and bytes are 0.
func holdLeast(t *testing.T, keys, bytes, cost int64, ops ...command.Op) {
	t.Helper()
	budget := charged + cost
	of(quotaOf(keys, bytes, budget)).takes(t, batch(ops...))
	of(quotaOf(keys, bytes, budget-1)).refuses(t, batch(ops...), api.ErrBudget)
	if bytes > 0 {
		of(quotaOf(keys, bytes-1, budget)).refuses(t, batch(ops...), api.ErrBytes)
		of(quotaOf(keys, bytes-1, budget-1)).refuses(t, batch(ops...), api.ErrBytes)
	}
	if keys > 0 {
		of(quotaOf(keys-1, bytes, budget)).refuses(t, batch(ops...), api.ErrKeys)
		of(quotaOf(keys-1, bytes, budget-1)).refuses(t, batch(ops...), api.ErrKeys)
	}
	if keys > 0 && bytes > 0 {
		of(quotaOf(keys-1, bytes-1, budget)).refuses(t, batch(ops...), api.ErrKeys)
		of(quotaOf(keys-1, bytes-1, budget-1)).refuses(t, batch(ops...), api.ErrKeys)
	}
}

// P17.2: what there would be is the keys and bytes behind all ops, and the charge with each record's cost alone.
func TestCheckOfPuts(t *testing.T) {
	holdLeast(t, 4, 9, putCost+3, put("d", "44"))
	holdLeast(t, 4, 7, putCost+1, put("d", ""))
	holdLeast(t, 3, 6, putCost+2, put("a", "5"))
	holdLeast(t, 3, 15, putCost+11, put("a", text(10)))
	holdLeast(t, 3, 4, putCost+1, put("b", ""))
	holdLeast(t, 4, 70, putCost+64, put(text(64), ""))
	holdLeast(t, 4, 1007, putCost+1001, put("d", text(1000)))
	holdLeast(t, 5, 12, 2*putCost+6, put("d", "44"), put("e", "55"))
	holdLeast(t, 4, 8, 3*putCost+12, put("d", text(5)), put("d", text(3)), put("d", "1"))
	holdLeast(t, 3, 7, 2*putCost+6, put("a", "11"), put("a", "11"))
}

// P17.2: it isn't looked at in between.
func TestCheckOfPutsAndDeletions(t *testing.T) {
	holdLeast(t, 3, 7, putCost+3+delCost+1, put("d", "44"), del("a"))
	holdLeast(t, 3, 7, putCost+3+delCost+1, del("a"), put("d", "44"))
	holdLeast(t, 3, 6, putCost+2+delCost+1, del("a"), put("a", "1"))
	holdLeast(t, 3, 6, putCost+1001+delCost+1, put("d", text(1000)), del("d"))
	holdLeast(t, 2, 4, putCost+1001+delCost+1, put("a", text(1000)), del("a"))
	holdLeast(t, 0, 0, putCost+2+3*delCost+3, del("b"), put("a", "1"), del("a"), del("c"))
	holdLeast(t, 1, 2, putCost+2+3*delCost+3, del("b"), del("a"), put("a", "1"), del("c"))
	holdLeast(t, 2, 4, putCost+2+2*delCost+2, del("a"), put("a", "1"), del("a"))
}

// P17.2: of deletions alone keys and bytes aren't looked at, though there are more than the quota has.
func TestCheckOfDeletions(t *testing.T) {
	holdLeast(t, 0, 0, delCost+1, del("a"))
	holdLeast(t, 0, 0, 2*delCost+2, del("a"), del("c"))
	holdLeast(t, 0, 0, 3*delCost+3, del("a"), del("b"), del("c"))
	p := with(much, putOf(text(64), text(1000), 1, 0), putOf("b", "", 2, 0), metaOf(quotaOf(0, 0, 2*putCost+1065+delCost+64), 3, 1))
	p.writes(t, batch(del(text(64))), delOf(text(64), 3))
}

// P17.2: a put beside what is too much is refused, though there would be less than there is.
func TestCheckOfLessThanThereIs(t *testing.T) {
	of(quotaOf(1, 100, 1000)).refuses(t, batch(del("a"), put("b", "")), api.ErrKeys)
	of(quotaOf(9, 3, 1000)).refuses(t, batch(put("b", "")), api.ErrBytes)
	of(quotaOf(9, 3, 1000)).refuses(t, batch(del("a"), del("b"), put("b", "22")), api.ErrBytes)
	of(quotaOf(9, 9, charged-1)).refuses(t, batch(put("b", "")), api.ErrBudget)
	of(quotaOf(9, 9, charged-1)).refuses(t, batch(del("b")), api.ErrBudget)
}

// P17.2: keys that are gone at a time don't count, but are charged all the same.
func TestCheckBehindTick(t *testing.T) {
	p := with(quotaOf(1, 4, 2*putCost+6), putOf("a", "1", 1, 5))
	p.tick(5)
	p.writes(t, batch(put("b", "222")), putOf("b", "222", 2, 0))
	p.refuses(t, batch(put("b", "2222")), api.ErrBytes)
	p.refuses(t, batch(put("b", "22"), put("c", "")), api.ErrKeys)
	p.refuses(t, batch(put("b", "2"), put("b", "")), api.ErrBudget)
}

// P17.2: tokens and what is passed by are neither keys nor bytes.
func TestCheckBesideTokens(t *testing.T) {
	p := with(quotaOf(1, 1, tokenCost+revokeCost+putCost+1), tokenOf(1, 7, 9), revokeOf(1))
	p.writes(t, batch(put("a", "")), putOf("a", "", 1, 0))
	p = with(quotaOf(1, 1, tokenCost+revokeCost+putCost), tokenOf(1, 7, 9), revokeOf(1))
	p.refuses(t, batch(put("a", "")), api.ErrBudget)
}

// P17.2: the greatest quota, and one of nothing.
func TestCheckAtTheEnds(t *testing.T) {
	with(api.Quota{}).refuses(t, batch(put("a", "")), api.ErrKeys)
	with(quotaOf(1, 0, 0)).refuses(t, batch(put("a", "")), api.ErrBytes)
	with(quotaOf(1, 1, 0)).refuses(t, batch(put("a", "")), api.ErrBudget)
	with(quotaOf(1, 1, putCost+1)).takes(t, batch(put("a", "")))
	with(much).takes(t, batch(put(text(64), text(1000))))
}
