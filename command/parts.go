package command

import (
	"hassock/api"
	"hassock/pack"
)

// putFlag is out, and behind it 1, if a flag is set, else 0.
func putFlag(out []byte, flag bool) []byte {
	var n uint64
	if flag {
		n = 1
	}
	return pack.Put(out, n, flagBytes)
}

// nextFlag tells whether the next flag is set.
func nextFlag(from *pack.Reader) bool { return from.Number(flagBytes) == 1 }

// putToken is out, and behind it a token.
func putToken(out []byte, t api.Token) []byte {
	out = pack.Put(out, uint64(t.Bucket), bucketBytes)
	out = pack.Put(out, uint64(t.Gen), genBytes)
	out = pack.Put(out, uint64(t.Serial), serialBytes)
	return pack.Put(out, t.Secret, secretBytes)
}

// nextToken is the next token.
func nextToken(from *pack.Reader) api.Token {
	var t api.Token
	t.Bucket = int(from.Number(bucketBytes))
	t.Gen = uint32(from.Number(genBytes))
	t.Serial = uint32(from.Number(serialBytes))
	t.Secret = from.Number(secretBytes)
	return t
}

// putMeasure is out, and behind it a number of what is counted.
func putMeasure(out []byte, n int64) []byte { return pack.Put(out, uint64(n), measureBytes) }

// nextMeasure is the next number of what is counted; what is more than an int64 holds is below 0.
func nextMeasure(from *pack.Reader) int64 { return int64(from.Number(measureBytes)) }

// putQuota is out, and behind it a quota's three.
func putQuota(out []byte, q api.Quota) []byte {
	out = putMeasure(out, q.Keys)
	out = putMeasure(out, q.Bytes)
	return putMeasure(out, q.Budget)
}

// nextQuota are the next three.
func nextQuota(from *pack.Reader) api.Quota {
	var q api.Quota
	q.Keys = nextMeasure(from)
	q.Bytes = nextMeasure(from)
	q.Budget = nextMeasure(from)
	return q
}
