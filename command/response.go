package command

import (
	"hassock/api"
	"hassock/pack"
)

// isCode tells whether a number is 0, or an error's.
func isCode(n int) bool { return n >= 0 && n <= int(api.ErrDisk) }

// putTold is out, and behind it what a response of Code 0 tells.
func putTold(out []byte, r Response) []byte {
	out = putToken(out, r.Token)
	out = pack.Put(out, r.Version, stampBytes)
	out = pack.PutText(out, r.Val)
	out = pack.Put(out, uint64(len(r.Page)), countBytes)
	for _, p := range r.Page {
		out = pack.PutText(out, p.Key)
		out = pack.PutText(out, p.Val)
	}
	out = putFlag(out, r.More)
	out = putMeasure(out, r.Keys)
	out = putMeasure(out, r.Bytes)
	out = putMeasure(out, r.Charged)
	out = pack.Put(out, r.Seq, stampBytes)
	out = pack.Put(out, uint64(len(r.Buckets)), countBytes)
	for _, n := range r.Buckets {
		out = pack.Put(out, uint64(n), bucketBytes)
	}
	return out
}

// readResponse is the response that bytes have at their front; where they are cut off, or it is none, whatever comes out.
func readResponse(b []byte) Response {
	from := pack.New(b)
	r := Response{Code: int(from.Number(codeBytes))}
	if r.Code != 0 {
		return r
	}
	r.Token = nextToken(from)
	r.Version = from.Number(stampBytes)
	r.Val = from.Text()
	for range from.Number(countBytes) {
		var p Pair
		p.Key = from.Text()
		p.Val = from.Text()
		r.Page = append(r.Page, p)
	}
	r.More = nextFlag(from)
	r.Keys = nextMeasure(from)
	r.Bytes = nextMeasure(from)
	r.Charged = nextMeasure(from)
	r.Seq = from.Number(stampBytes)
	for range from.Number(countBytes) {
		r.Buckets = append(r.Buckets, int(from.Number(bucketBytes)))
	}
	return r
}
