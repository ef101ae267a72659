package seglog

import (
	"math"
	"slices"

	"hassock/api"
	"hassock/disk"
	"hassock/frame"
	"hassock/pack"
)

// Files beside the segments.
const (
	manifestFile = "m"
	switchFile   = "t" // the manifest that is to be
)

// Bytes of a manifest's numbers.
const (
	numberBytes = 4 // of a segment's, and of the base
	begunBytes  = 1
)

// manifest tells which segments there are.
type manifest struct {
	segments []int // rising, one at least
	base     int   // the first one of a merge that isn't adopted; 0: there is none
	begun    bool  // a merge was
}

// last is the last segment's number.
func (m manifest) last() int { return m.segments[len(m.segments)-1] }

// withNext is m with one segment more.
func (m manifest) withNext() manifest {
	m.segments = append(slices.Clone(m.segments), m.last()+1)
	return m
}

// ahead is how many segments are ahead of a number.
func (m manifest) ahead(number int) int {
	n, _ := slices.BinarySearch(m.segments, number)
	return n
}

// switchTo makes m the disk's manifest, at once: by renaming a whole one.
func (m manifest) switchTo(d *disk.Disk) error {
	f, err := frame.Put(m.body())
	if err != nil {
		return err
	}
	if err := deleteIfThere(d, switchFile); err != nil {
		return err
	}
	if err := d.Create(switchFile); err != nil {
		return err
	}
	if err := appendSynced(d, switchFile, f); err != nil {
		return err
	}
	return d.Rename(switchFile, manifestFile)
}

// body is m as bytes.
func (m manifest) body() []byte {
	var numbers []byte
	for _, number := range m.segments {
		numbers = pack.Put(numbers, uint64(number), numberBytes)
	}
	begun := uint64(0)
	if m.begun {
		begun = 1
	}
	b := pack.PutText(nil, string(numbers))
	b = pack.Put(b, uint64(m.base), numberBytes)
	return pack.Put(b, begun, begunBytes)
}

// openManifest is the disk's manifest, without what was written of a merge that isn't adopted; a first one, if there is none.
func openManifest(d *disk.Disk) (manifest, error) {
	if err := deleteIfThere(d, switchFile); err != nil {
		return manifest{}, err
	}
	if !isThere(d, manifestFile) {
		return firstManifest(d)
	}
	m, err := readManifest(d)
	if err != nil {
		return manifest{}, err
	}
	if m.base == 0 {
		return m, nil
	}
	m.segments = m.segments[:m.ahead(m.base)]
	m.base = 0
	// Ahead of the switch: what tells no segment is no manifest.
	if len(m.segments) == 0 {
		return manifest{}, api.ErrForm
	}
	if err := m.switchTo(d); err != nil {
		return manifest{}, err
	}
	return m, nil
}

// firstManifest makes the disk a log of one segment, which is empty.
func firstManifest(d *disk.Disk) (manifest, error) {
	m := manifest{segments: []int{1}}
	if err := deleteAll(d, d.List()); err != nil {
		return manifest{}, err
	}
	if err := d.Create(segmentFile(m.last())); err != nil {
		return manifest{}, err
	}
	if err := m.switchTo(d); err != nil {
		return manifest{}, err
	}
	return m, nil
}

// readManifest is what the disk's manifest tells; ErrForm, if it is none.
func readManifest(d *disk.Disk) (manifest, error) {
	b, err := readFile(d, manifestFile)
	if err != nil {
		return manifest{}, err
	}
	body, length, err := frame.Get(b)
	if err != nil || length != len(b) {
		return manifest{}, api.ErrForm
	}
	r := pack.New(body)
	numbers, base, begun := r.Text(), r.Number(numberBytes), r.Number(begunBytes)
	segments, rise := segmentsOf(numbers)
	if !rise || begun > 1 || r.Short() || r.Left() > 0 {
		return manifest{}, api.ErrForm
	}
	return manifest{segments: segments, base: int(base), begun: begun == 1}, nil
}

// segmentsOf are a manifest's segments; false, if there is none, or they don't rise from 1 on to one that has a next one.
func segmentsOf(numbers string) ([]int, bool) {
	var segments []int
	last := uint64(0)
	r := pack.New([]byte(numbers))
	for r.Left() > 0 {
		// One that is cut off is 0, and so doesn't rise.
		number := r.Number(numberBytes)
		if number <= last || number == math.MaxUint32 {
			return nil, false
		}
		segments = append(segments, int(number))
		last = number
	}
	return segments, len(segments) > 0
}
