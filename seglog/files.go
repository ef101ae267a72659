package seglog

import (
	"slices"

	"hassock/disk"
)

// isThere tells whether the disk has a file.
func isThere(d *disk.Disk, name string) bool { return slices.Contains(d.List(), name) }

// readFile are all bytes of a file.
func readFile(d *disk.Disk, name string) ([]byte, error) {
	n, err := d.Len(name)
	if err != nil {
		return nil, err
	}
	return d.Read(name, 0, n)
}

// appendSynced puts bytes behind a file's, and syncs it.
func appendSynced(d *disk.Disk, name string, b []byte) error {
	if err := d.Append(name, b); err != nil {
		return err
	}
	return d.Sync(name)
}

// cutSynced leaves a file's first n bytes, and syncs it.
func cutSynced(d *disk.Disk, name string, n int) error {
	if err := d.Cut(name, n); err != nil {
		return err
	}
	return d.Sync(name)
}

// deleteIfThere deletes a file, if the disk has it.
func deleteIfThere(d *disk.Disk, name string) error {
	if !isThere(d, name) {
		return nil
	}
	return d.Delete(name)
}

// deleteAll deletes files, in their order.
func deleteAll(d *disk.Disk, names []string) error {
	for _, name := range names {
		if err := d.Delete(name); err != nil {
			return err
		}
	}
	return nil
}

// deleteUntold deletes all files but the manifest and those that it tells.
func deleteUntold(d *disk.Disk, m manifest) error {
	told := map[string]int{manifestFile: 0}
	for _, number := range m.segments {
		told[segmentFile(number)] = number
	}
	var untold []string
	for _, name := range d.List() {
		if _, is := told[name]; !is {
			untold = append(untold, name)
		}
	}
	return deleteAll(d, untold)
}
