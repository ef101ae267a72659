package store

import (
	"math"

	"hassock/api"
	"hassock/bucket"
	"hassock/record"
)

// ledger is what is reserved beside the buckets that live.
type ledger struct {
	records int64 // what the log's RBuckets and RGens cost
	drops   int64 // how many buckets were dropped since a merge
	budgets int64 // what is reserved of these
}

// maxBudgets is what budgets come to at most. The reserve of more is the greatest number, as is that of this.
const maxBudgets = math.MaxInt64 / 2

// Settle settles its ledgers: P18.3.
func (s *Store) Settle() {
	s.ledger = ledger{}
	for id, n := range s.numbers {
		switch {
		case n.bucket != nil:
			n.bucket.Recharge()
			s.ledger.records += record.Cost(n.bucket.Meta())
		case n.next != 1:
			s.ledger.records += record.Cost(api.Record{Kind: api.RGen, Bucket: id, Gen: n.next})
		}
	}
}

// apply applies the records of a frame that lies there.
func (s *Store) apply(l []api.Record, at api.Spot) {
	for _, r := range l {
		n := &s.numbers[r.Bucket]
		switch r.Kind {
		case api.RBucket:
			s.ledger.records += record.Cost(r)
			if !n.has(r.Gen) {
				n.bucket = bucket.New(r.Bucket, r.Gen, r.Quota)
				n.next = max(n.next, r.Gen, r.Gen+1) // behind the greatest one there is none
			}
			n.bucket.Apply(r, at)
		case api.RDrop:
			if n.has(r.Gen) {
				s.ledger.drop(n.bucket)
				n.bucket = nil
			}
		case api.RGen:
			s.ledger.records += record.Cost(r)
			n.next = max(n.next, r.Gen)
		default:
			if n.bucket != nil {
				n.bucket.Apply(r, at)
			}
		}
	}
}

// has tells whether there is a bucket of that generation.
func (n *number) has(gen uint32) bool { return n.bucket != nil && n.bucket.Meta().Gen == gen }

// drop notes that a bucket is dropped.
func (l *ledger) drop(b *bucket.Bucket) {
	l.drops++
	l.budgets = min(l.budgets+reservedOf(b), maxBudgets)
}

// budgets are what is reserved of each bucket, and of those that were dropped.
func (s *Store) budgets() []int64 { return s.budgetsBut(-1) }

// budgetsBut are the budgets without one bucket's.
func (s *Store) budgetsBut(but int) []int64 {
	l := []int64{s.ledger.budgets}
	for id, n := range s.numbers {
		if n.bucket != nil && id != but {
			l = append(l, reservedOf(n.bucket))
		}
	}
	return l
}

// admin is the administrator's ledger.
func (s *Store) admin() int64 {
	return s.ledger.records + (s.ledger.drops+int64(len(s.Buckets())))*endCost()
}

// reservedOf is what is reserved of a bucket.
func reservedOf(b *bucket.Bucket) int64 { return reserved(b.Meta().Quota, b.Charged()) }

// reserved is what is reserved of a bucket of that quota that is charged so much.
func reserved(q api.Quota, charged int64) int64 { return max(q.Budget, charged) }

// endCost is what a bucket's end costs: an RDrop, and the RGen that a merge leaves of it. All of a kind cost the same.
func endCost() int64 {
	first := api.Record{Kind: api.RDrop, Gen: 1}
	then := api.Record{Kind: api.RGen, Gen: 1}
	return record.Cost(first) + record.Cost(then)
}
