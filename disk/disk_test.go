package disk_test

import (
	"bytes"
	"fmt"
	"math"
	"slices"
	"strings"
	"testing"

	"hassock/api"
	"hassock/disk"
)

// is holds an error against a code, which must be told itself; 0 is no error.
func is(t *testing.T, what string, err error, want api.Code) {
	t.Helper()
	if want == 0 {
		if err != nil {
			t.Errorf("%s: %v, not done", what, err)
		}
		return
	}
	code, itself := err.(api.Code)
	if !itself || code != want {
		t.Errorf("%s: %v, not %v", what, err, want)
	}
}

// done tells of a call that it must have been done.
func done(t *testing.T, err error) {
	t.Helper()
	is(t, "a call", err, 0)
}

// holds tells of a file that it must have these bytes.
func holds(t *testing.T, d *disk.Disk, name, want string) {
	t.Helper()
	n, err := d.Len(name)
	if n != len(want) || err != nil {
		t.Errorf("%q has %d bytes (%v), not %d", name, n, err, len(want))
		return
	}
	b, err := d.Read(name, 0, n)
	if string(b) != want || err != nil {
		t.Errorf("%q is %q (%v), not %q", name, b, err, want)
	}
}

// listed tells of a disk that it must have these files, rising.
func listed(t *testing.T, d *disk.Disk, want ...string) {
	t.Helper()
	if l := d.List(); !slices.Equal(l, want) {
		t.Errorf("the files are %q, not %q", l, want)
	}
}

// counts tells of a disk how many bytes and effects it must have.
func counts(t *testing.T, d *disk.Disk, used, effects int) {
	t.Helper()
	if d.Used() != used || d.Effects() != effects {
		t.Errorf("Used is %d and Effects %d, not %d and %d", d.Used(), d.Effects(), used, effects)
	}
}

// put makes a file whose first bytes are synced, and the others not.
func put(t *testing.T, d *disk.Disk, name, synced, unsynced string) {
	t.Helper()
	done(t, d.Create(name))
	done(t, d.Append(name, []byte(synced)))
	done(t, d.Sync(name))
	done(t, d.Append(name, []byte(unsynced)))
}

// fall makes a disk go down by a plan for now.
func fall(t *testing.T, d *disk.Disk, keep int) {
	t.Helper()
	d.Plan(0, keep)
	is(t, "the crash", d.Create("\x00a name that no test takes"), api.ErrDisk)
	if !d.Down() {
		t.Error("the plan was for now, and the disk isn't down")
	}
}

// call is one that can tell an error.
type call struct {
	name string
	do   func(*disk.Disk) error
}

// read and length are calls without their answers, which must be none beside an error.
func read(name string, at, n int) func(*disk.Disk) error {
	return func(d *disk.Disk) error {
		b, err := d.Read(name, at, n)
		if err != nil && b != nil {
			return fmt.Errorf("%q beside %w", b, err)
		}
		return err
	}
}

func length(name string) func(*disk.Disk) error {
	return func(d *disk.Disk) error {
		n, err := d.Len(name)
		if err != nil && n != 0 {
			return fmt.Errorf("%d beside %w", n, err)
		}
		return err
	}
}

// effects are calls that are effects on a disk with files a and b, the first with two bytes at least.
func effects() []call {
	return []call{
		{"Create", func(d *disk.Disk) error { return d.Create("c") }},
		{"Append", func(d *disk.Disk) error { return d.Append("a", []byte("x")) }},
		{"Append of no bytes", func(d *disk.Disk) error { return d.Append("a", nil) }},
		{"Sync", func(d *disk.Disk) error { return d.Sync("a") }},
		{"Cut", func(d *disk.Disk) error { return d.Cut("a", 1) }},
		{"Cut to all", func(d *disk.Disk) error { n, _ := d.Len("a"); return d.Cut("a", n) }},
		{"Rename", func(d *disk.Disk) error { return d.Rename("a", "c") }},
		{"Rename over another", func(d *disk.Disk) error { return d.Rename("a", "b") }},
		{"Rename to itself", func(d *disk.Disk) error { return d.Rename("a", "a") }},
		{"Delete", func(d *disk.Disk) error { return d.Delete("a") }},
	}
}

// refused are calls that tell an error on a disk of 10 bytes with files a and b, and none else.
func refused() []struct {
	call
	want api.Code
} {
	return []struct {
		call
		want api.Code
	}{
		{call{"Create twice", func(d *disk.Disk) error { return d.Create("a") }}, api.ErrTwice},
		{call{"Append to none", func(d *disk.Disk) error { return d.Append("z", nil) }}, api.ErrNone},
		{call{"Append of too much to none", func(d *disk.Disk) error { return d.Append("z", make([]byte, 11)) }}, api.ErrNone},
		{call{"Append of too much", func(d *disk.Disk) error { return d.Append("a", make([]byte, 11)) }}, api.ErrSpace},
		{call{"Sync of none", func(d *disk.Disk) error { return d.Sync("z") }}, api.ErrNone},
		{call{"Cut of none", func(d *disk.Disk) error { return d.Cut("z", 0) }}, api.ErrNone},
		{call{"Cut of none below 0", func(d *disk.Disk) error { return d.Cut("z", -1) }}, api.ErrNone},
		{call{"Cut below 0", func(d *disk.Disk) error { return d.Cut("a", -1) }}, api.ErrArg},
		{call{"Cut above all", func(d *disk.Disk) error { return d.Cut("a", 11) }}, api.ErrArg},
		{call{"Rename of none", func(d *disk.Disk) error { return d.Rename("z", "a") }}, api.ErrNone},
		{call{"Rename of none to itself", func(d *disk.Disk) error { return d.Rename("z", "z") }}, api.ErrNone},
		{call{"Rename of none to none", func(d *disk.Disk) error { return d.Rename("z", "y") }}, api.ErrNone},
		{call{"Delete of none", func(d *disk.Disk) error { return d.Delete("z") }}, api.ErrNone},
		{call{"Read of none", read("z", 0, 0)}, api.ErrNone},
		{call{"Read of none below 0", read("z", -1, -1)}, api.ErrNone},
		{call{"Read beyond the end", read("a", 0, 11)}, api.ErrArg},
		{call{"Read below 0", read("a", -1, 1)}, api.ErrArg},
		{call{"Read of fewer than none", read("a", 0, -1)}, api.ErrArg},
		{call{"Len of none", length("z")}, api.ErrNone},
	}
}

// P4.1
func TestNewDisk(t *testing.T) {
	for _, capacity := range []int{math.MinInt, -1, 0, 1, 10000, math.MaxInt} {
		d := disk.New(capacity)
		if d == nil {
			t.Fatalf("New(%d) is nil", capacity)
		}
		if d.Down() {
			t.Errorf("New(%d) is down", capacity)
		}
		listed(t, d)
		counts(t, d, 0, 0)
	}
}

// P4.1: no disk knows of another.
func TestTwoDisks(t *testing.T) {
	a, b := disk.New(5), disk.New(5)
	put(t, a, "a", "12345", "")
	put(t, b, "b", "123", "")
	fall(t, a, 0)
	listed(t, b, "b")
	counts(t, b, 3, 4)
	if b.Down() {
		t.Error("one disk's crash is seen in another")
	}
	done(t, b.Append("b", []byte("45")))
}

// P4.1: names are any texts, rising by bytes.
func TestListRisesByBytes(t *testing.T) {
	rising := []string{
		"", "\x00", "\x00\x00", "\x00a", "\x01", " ", "A", "B", "Z", "a", "a\x00", "aa", "ab", "a\xff", "b",
		"s1", "s10", "s2", "z", "\x7f", "\x80", "\xc3", "\u00e9", "\u20ac", "\U0001f600", "\xfe", "\xff", "\xff\x00", "\xff\xff",
		"\xff\xff" + strings.Repeat("n", 300),
	}
	for _, step := range []int{1, 7, 11, len(rising) - 1} {
		d := disk.New(10)
		for i := range rising {
			done(t, d.Create(rising[i*step%len(rising)]))
		}
		listed(t, d, rising...)
		for _, name := range rising {
			holds(t, d, name, "")
		}
	}
}

// P4.1: names are told apart by all their bytes.
func TestNamesOfAnyBytes(t *testing.T) {
	names := []string{"", "\x00", "a", "A", "a\x00", "a/b", "/", ".", "..", "\xc3\xa9", "e\xcc\x81", "\xff", "\xfe", "\xef\xbf\xbd"}
	d := disk.New(1000)
	for i, name := range names {
		done(t, d.Create(name))
		done(t, d.Append(name, []byte{byte(i)}))
	}
	for i, name := range names {
		holds(t, d, name, string([]byte{byte(i)}))
		is(t, "Create once more", d.Create(name), api.ErrTwice)
	}
}

// P4.1
func TestTheEmptyName(t *testing.T) {
	d := disk.New(10)
	is(t, "Sync of none", d.Sync(""), api.ErrNone)
	put(t, d, "", "ab", "c")
	holds(t, d, "", "abc")
	listed(t, d, "")
	done(t, d.Cut("", 1))
	done(t, d.Rename("", "a"))
	listed(t, d, "a")
	done(t, d.Rename("a", ""))
	holds(t, d, "", "a")
	done(t, d.Delete(""))
	listed(t, d)
	is(t, "Delete of none", d.Delete(""), api.ErrNone)
}

// P4.1
func TestUsedIsOfAllFiles(t *testing.T) {
	d := disk.New(100)
	put(t, d, "a", "1234", "56")
	counts(t, d, 6, 4)
	put(t, d, "b", "", "123")
	counts(t, d, 9, 8)
	done(t, d.Cut("a", 5))
	counts(t, d, 8, 9)
	done(t, d.Rename("a", "c"))
	counts(t, d, 8, 10)
	done(t, d.Rename("c", "b"))
	counts(t, d, 5, 11)
	done(t, d.Delete("b"))
	counts(t, d, 0, 12)
}

// P4.1: each call that is done is one effect, also where nothing changes.
func TestEachEffectCounts(t *testing.T) {
	for _, c := range effects() {
		d := disk.New(10)
		put(t, d, "a", "12", "34")
		done(t, d.Create("b"))
		is(t, c.name, c.do(d), 0)
		if d.Effects() != 6 {
			t.Errorf("%s: Effects is %d, not 6", c.name, d.Effects())
		}
	}
}

// P4.1: what asks only is no effect, nor are Plan and Open.
func TestWhatIsNoEffect(t *testing.T) {
	d := disk.New(10)
	put(t, d, "a", "12", "34")
	d.Plan(1, 0)
	for range 3 {
		holds(t, d, "a", "1234")
		listed(t, d, "a")
		counts(t, d, 4, 4)
		d.Down()
	}
	done(t, d.Sync("a"))
	is(t, "the crash", d.Sync("a"), api.ErrDisk)
	d.Open()
	d.Plan(9, 9)
	d.Open()
	counts(t, d, 4, 5)
}

// P4.1: behind so many effects the next one isn't done.
func TestPlanCountsEffects(t *testing.T) {
	for _, c := range []struct{ effects, want int }{
		{0, 0}, {1, 1}, {2, 2}, {3, 3}, {17, 17}, {-1, 0}, {-2, 0}, {math.MinInt, 0},
	} {
		for _, e := range effects() {
			d := disk.New(1000)
			put(t, d, "a", "12", "34")
			done(t, d.Create("b"))
			d.Plan(c.effects, 100)
			for range c.want {
				done(t, d.Sync("a"))
			}
			if d.Down() {
				t.Errorf("Plan(%d): down behind %d effects", c.effects, c.want)
			}
			is(t, e.name, e.do(d), api.ErrDisk)
			if !d.Down() {
				t.Errorf("Plan(%d): %s doesn't take it down", c.effects, e.name)
			}
			d.Open()
			listed(t, d, "a", "b")
			holds(t, d, "a", "1234")
			counts(t, d, 4, 5+c.want)
		}
	}
}

// P4.1
func TestPlanFarAway(t *testing.T) {
	d := disk.New(10)
	done(t, d.Create("a"))
	for _, far := range []int{1000, math.MaxInt} {
		d.Plan(far, 0)
		for range 999 {
			done(t, d.Sync("a"))
		}
	}
	if d.Down() || d.Effects() != 1999 {
		t.Errorf("down is %v, behind %d effects", d.Down(), d.Effects())
	}
}

// P4.1: a plan that isn't for now changes nothing yet.
func TestPlanWaits(t *testing.T) {
	d := disk.New(10)
	put(t, d, "a", "12", "34")
	d.Plan(0, 0)
	if d.Down() {
		t.Error("down without an effect")
	}
	holds(t, d, "a", "1234")
	listed(t, d, "a")
	counts(t, d, 4, 4)
}

// P4.1: what is kept of each file.
func TestPlanKeeps(t *testing.T) {
	for _, c := range []struct {
		keep int
		want [4]string
	}{
		{0, [4]string{"abc", "", "xy", ""}},
		{-1, [4]string{"abc", "", "xy", ""}},
		{math.MinInt, [4]string{"abc", "", "xy", ""}},
		{1, [4]string{"abcd", "1", "xy", ""}},
		{2, [4]string{"abcde", "12", "xy", ""}},
		{3, [4]string{"abcdef", "12", "xy", ""}},
		{4, [4]string{"abcdef", "12", "xy", ""}},
		{1000, [4]string{"abcdef", "12", "xy", ""}},
		{math.MaxInt, [4]string{"abcdef", "12", "xy", ""}},
	} {
		d := disk.New(100)
		put(t, d, "a", "abc", "def")
		put(t, d, "b", "", "12")
		put(t, d, "c", "xy", "")
		done(t, d.Create("d"))
		fall(t, d, c.keep)
		used := len(strings.Join(c.want[:], ""))
		counts(t, d, used, 13)
		listed(t, d, "a", "b", "c", "d")
		d.Open()
		for i, name := range d.List() {
			holds(t, d, name, c.want[i])
		}
		counts(t, d, used, 13)
	}
}

// P4.1: a plan is in place of another one, also of one that had begun to count.
func TestPlanInPlaceOfAnother(t *testing.T) {
	d := disk.New(100)
	put(t, d, "a", "ab", "cdef")
	d.Plan(0, 0)
	d.Plan(2, 3)
	done(t, d.Append("a", nil))
	done(t, d.Append("a", nil))
	d.Plan(1, 2)
	done(t, d.Append("a", nil))
	d.Plan(3, 100)
	d.Plan(0, 1)
	is(t, "the crash", d.Append("a", nil), api.ErrDisk)
	d.Open()
	holds(t, d, "a", "abc")
}

// P4.1: a plan that is made while it is down is gone by Open too.
func TestPlanWhileDown(t *testing.T) {
	d := disk.New(100)
	put(t, d, "a", "ab", "cdef")
	fall(t, d, 1)
	d.Plan(0, 100)
	is(t, "Sync while down", d.Sync("a"), api.ErrDisk)
	d.Plan(5, 100)
	is(t, "Sync while down", d.Sync("a"), api.ErrDisk)
	if !d.Down() {
		t.Error("a plan brings it up")
	}
	d.Open()
	holds(t, d, "a", "abc")
	for range 10 {
		done(t, d.Sync("a"))
	}
}

// The chapter's head: Open leaves an up disk as it is, but for its plan.
func TestOpenWhenUp(t *testing.T) {
	d := disk.New(100)
	d.Open()
	put(t, d, "a", "ab", "cd")
	for _, effects := range []int{0, 1} {
		d.Plan(effects, 0)
		d.Open()
		d.Open()
		if d.Down() {
			t.Error("Open takes it down")
		}
		holds(t, d, "a", "abcd")
		done(t, d.Append("a", nil))
		done(t, d.Append("a", nil))
		done(t, d.Append("a", nil))
	}
	counts(t, d, 4, 10)
	// Open synced nothing.
	fall(t, d, 1)
	d.Open()
	holds(t, d, "a", "abc")
}

// The chapter's head: down, each call that can tell an error tells ErrDisk, and changes nothing.
func TestEachCallWhileDown(t *testing.T) {
	d := disk.New(10)
	put(t, d, "a", "ab", "cd")
	done(t, d.Create("b"))
	fall(t, d, 1)
	for range 2 {
		for _, c := range effects() {
			is(t, c.name, c.do(d), api.ErrDisk)
		}
		for _, c := range refused() {
			is(t, c.name, c.do(d), api.ErrDisk)
		}
		is(t, "Read", read("a", 0, 1)(d), api.ErrDisk)
		is(t, "Read of no bytes", read("a", 0, 0)(d), api.ErrDisk)
		is(t, "Len", length("a")(d), api.ErrDisk)
		if !d.Down() {
			t.Error("it isn't down any more")
		}
		listed(t, d, "a", "b")
		counts(t, d, 3, 5)
	}
	d.Open()
	if d.Down() {
		t.Error("Open doesn't bring it up")
	}
	listed(t, d, "a", "b")
	holds(t, d, "a", "abc")
	holds(t, d, "b", "")
}

// The chapter's head: what a crash leaves counts as synced.
func TestCrashOpenCrash(t *testing.T) {
	d := disk.New(100)
	put(t, d, "a", "ab", "cdef")
	put(t, d, "b", "", "12345")
	fall(t, d, 2)
	d.Open()
	holds(t, d, "a", "abcd")
	holds(t, d, "b", "12")
	fall(t, d, 0)
	d.Open()
	holds(t, d, "a", "abcd")
	holds(t, d, "b", "12")
	done(t, d.Append("a", []byte("XYZ")))
	done(t, d.Append("b", []byte("UVW")))
	done(t, d.Sync("b"))
	fall(t, d, 1)
	d.Open()
	holds(t, d, "a", "abcdX")
	holds(t, d, "b", "12UVW")
	counts(t, d, 10, 11)
}

// P4.2: behind a crash there is no plan, and all goes on.
func TestAllGoesOnBehindACrash(t *testing.T) {
	for _, c := range effects() {
		d := disk.New(10)
		put(t, d, "a", "12", "34")
		done(t, d.Create("b"))
		d.Plan(0, 100)
		is(t, c.name, c.do(d), api.ErrDisk)
		is(t, c.name+" while down", c.do(d), api.ErrDisk)
		d.Open()
		is(t, c.name+" behind Open", c.do(d), 0)
		if d.Effects() != 6 || d.Down() {
			t.Errorf("%s: Effects is %d, not 6", c.name, d.Effects())
		}
	}
}

// P4.2: of these, none is an effect, none counts for the plan, and none changes anything.
func TestRefusedCalls(t *testing.T) {
	for _, planned := range []bool{false, true} {
		d := disk.New(10)
		put(t, d, "a", "12", "34")
		done(t, d.Create("b"))
		if planned {
			d.Plan(0, 0)
		}
		for _, c := range refused() {
			is(t, c.name, c.do(d), c.want)
			if d.Down() {
				t.Fatalf("%s takes it down", c.name)
			}
			listed(t, d, "a", "b")
			holds(t, d, "a", "1234")
			holds(t, d, "b", "")
			counts(t, d, 4, 5)
		}
		if planned {
			is(t, "the crash", d.Sync("b"), api.ErrDisk)
			d.Open()
			holds(t, d, "a", "12")
		}
	}
}

// P4.2
func TestCreate(t *testing.T) {
	d := disk.New(0)
	done(t, d.Create("a"))
	holds(t, d, "a", "")
	is(t, "Create twice", d.Create("a"), api.ErrTwice)
	done(t, d.Create("b"))
	done(t, d.Delete("a"))
	done(t, d.Create("a"))
	listed(t, d, "a", "b")
}

// P4.2: a file that is created anew has none of the bytes of the old one, nor its synced ones.
func TestCreateAnew(t *testing.T) {
	d := disk.New(100)
	put(t, d, "a", "abc", "")
	done(t, d.Delete("a"))
	done(t, d.Create("a"))
	holds(t, d, "a", "")
	done(t, d.Append("a", []byte("XYZ")))
	fall(t, d, 1)
	d.Open()
	holds(t, d, "a", "X")
}

// full is a disk with all the files that it may have.
func full(t *testing.T) *disk.Disk {
	t.Helper()
	d := disk.New(100)
	for i := range 1000 {
		is(t, fmt.Sprint("file ", i+1), d.Create(fmt.Sprint("f", i)), 0)
	}
	return d
}

// P4.2
func TestTheThousandthFile(t *testing.T) {
	d := full(t)
	is(t, "file 1001", d.Create("x"), api.ErrSpace)
	is(t, "file 1001, without a name", d.Create(""), api.ErrSpace)
	is(t, "one that is there", d.Create("f0"), api.ErrTwice)
	is(t, "one that is there", d.Create("f999"), api.ErrTwice)
	if len(d.List()) != 1000 || d.Effects() != 1000 {
		t.Errorf("%d files, by %d effects", len(d.List()), d.Effects())
	}
	done(t, d.Delete("f500"))
	done(t, d.Create("x"))
	is(t, "file 1001", d.Create("f500"), api.ErrSpace)
	done(t, d.Rename("x", "y"))
	is(t, "file 1001", d.Create("x"), api.ErrSpace)
	done(t, d.Rename("y", "f0"))
	done(t, d.Create("x"))
	is(t, "file 1001", d.Create("y"), api.ErrSpace)
}

// P4.2: there is no room for a file, whatever the plan; and all files are left.
func TestTheFileBehindTheLastWithAPlan(t *testing.T) {
	d := full(t)
	d.Plan(0, 0)
	is(t, "file 1001", d.Create("x"), api.ErrSpace)
	is(t, "one that is there", d.Create("f7"), api.ErrTwice)
	if d.Down() {
		t.Error("it went down")
	}
	is(t, "the crash", d.Delete("f7"), api.ErrDisk)
	d.Open()
	if len(d.List()) != 1000 {
		t.Errorf("%d files", len(d.List()))
	}
}

// P4.2
func TestAppend(t *testing.T) {
	d := disk.New(1000)
	done(t, d.Create("a"))
	done(t, d.Create("b"))
	done(t, d.Append("a", []byte("ab")))
	done(t, d.Append("b", []byte("\x00\xff\x00")))
	done(t, d.Append("a", []byte("c")))
	done(t, d.Append("a", nil))
	done(t, d.Append("a", []byte{}))
	done(t, d.Append("a", []byte("def")))
	holds(t, d, "a", "abcdef")
	holds(t, d, "b", "\x00\xff\x00")
	counts(t, d, 9, 8)
}

// P4.2: no file's bytes become another's.
func TestAppendToManyFiles(t *testing.T) {
	d := disk.New(100000)
	want := make([]string, 20)
	for i := range want {
		done(t, d.Create(fmt.Sprint(i)))
	}
	for round := range 200 {
		for i := range want {
			b := bytes.Repeat([]byte{byte(i*7 + round)}, (i+round)%5)
			done(t, d.Append(fmt.Sprint(i), b))
			want[i] += string(b)
		}
	}
	for i := range want {
		holds(t, d, fmt.Sprint(i), want[i])
	}
}

// P4.2
func TestAppendUpToTheCapacity(t *testing.T) {
	for _, capacity := range []int{0, 1, 2, 10, 4096, 100000} {
		d := disk.New(capacity)
		done(t, d.Create("a"))
		is(t, "one byte more than all", d.Append("a", make([]byte, capacity+1)), api.ErrSpace)
		done(t, d.Append("a", nil))
		done(t, d.Append("a", make([]byte, capacity)))
		counts(t, d, capacity, 3)
		is(t, "one byte more", d.Append("a", []byte{1}), api.ErrSpace)
		is(t, "many more", d.Append("a", make([]byte, capacity+1)), api.ErrSpace)
		done(t, d.Append("a", nil))
		done(t, d.Append("a", []byte{}))
		counts(t, d, capacity, 5)
	}
}

// P4.2: the capacity is for all files, and what is gone gives room.
func TestCapacityIsOfAllFiles(t *testing.T) {
	d := disk.New(10)
	put(t, d, "a", "1234", "")
	put(t, d, "b", "", "123")
	is(t, "one byte more", d.Append("b", []byte("4567")), api.ErrSpace)
	done(t, d.Append("b", []byte("456")))
	done(t, d.Create("c"))
	is(t, "one byte more", d.Append("c", []byte("1")), api.ErrSpace)
	done(t, d.Cut("a", 3))
	is(t, "one byte more", d.Append("c", []byte("12")), api.ErrSpace)
	done(t, d.Append("c", []byte("1")))
	done(t, d.Delete("a"))
	is(t, "one byte more", d.Append("c", []byte("2345")), api.ErrSpace)
	done(t, d.Append("c", []byte("234")))
	done(t, d.Rename("c", "b"))
	is(t, "one byte more", d.Append("b", []byte("1234567")), api.ErrSpace)
	done(t, d.Append("b", []byte("123456")))
	if d.Used() != 10 {
		t.Errorf("Used is %d", d.Used())
	}
	fall(t, d, 1)
	d.Open()
	holds(t, d, "b", "1")
	done(t, d.Append("b", []byte("123456789")))
	is(t, "one byte more", d.Append("b", []byte("1")), api.ErrSpace)
}

// P4.2: no bytes at all are more than a capacity below 0.
func TestCapacityBelowZero(t *testing.T) {
	for _, capacity := range []int{-1, -2, math.MinInt} {
		d := disk.New(capacity)
		is(t, "Append to none", d.Append("a", nil), api.ErrNone)
		done(t, d.Create("a"))
		is(t, "Append of no bytes", d.Append("a", nil), api.ErrSpace)
		is(t, "Append of one", d.Append("a", []byte{1}), api.ErrSpace)
		done(t, d.Sync("a"))
		done(t, d.Cut("a", 0))
		done(t, d.Rename("a", "b"))
		holds(t, d, "b", "")
		done(t, d.Delete("b"))
		counts(t, d, 0, 5)
	}
}

// P4.2
func TestTheGreatestCapacity(t *testing.T) {
	d := disk.New(math.MaxInt)
	put(t, d, "a", "ab", "c")
	holds(t, d, "a", "abc")
}

// P4.2
func TestSync(t *testing.T) {
	d := disk.New(100)
	put(t, d, "a", "ab", "cd")
	put(t, d, "b", "12", "34")
	done(t, d.Sync("a"))
	holds(t, d, "a", "abcd")
	done(t, d.Append("a", []byte("ef")))
	fall(t, d, 0)
	d.Open()
	holds(t, d, "a", "abcd")
	holds(t, d, "b", "12")
}

// P4.2: a Sync that crashes syncs nothing.
func TestSyncThatCrashes(t *testing.T) {
	d := disk.New(100)
	put(t, d, "a", "ab", "cd")
	d.Plan(0, 0)
	is(t, "the crash", d.Sync("a"), api.ErrDisk)
	d.Open()
	holds(t, d, "a", "ab")
}

// P4.2: no effect that crashes is done, and what it would have kept is kept as ever.
func TestNoEffectThatCrashesIsDone(t *testing.T) {
	for keep := range 4 {
		for _, c := range effects() {
			d := disk.New(100)
			put(t, d, "a", "12", "34")
			put(t, d, "b", "5", "6")
			d.Plan(0, keep)
			is(t, c.name, c.do(d), api.ErrDisk)
			d.Open()
			listed(t, d, "a", "b")
			holds(t, d, "a", "1234"[:2+min(keep, 2)])
			holds(t, d, "b", "56"[:1+min(keep, 1)])
		}
	}
}

// P4.2: a file of four bytes, of which two are synced, is cut; then a crash keeps so many behind the synced ones.
func TestCut(t *testing.T) {
	for _, c := range []struct {
		n     int
		left  string
		keep0 string
		keep1 string
	}{
		{0, "", "", "X"},
		{1, "a", "a", "aX"},
		{2, "ab", "ab", "abX"},
		{3, "abc", "ab", "abc"},
		{4, "abcd", "ab", "abc"},
	} {
		for keep, want := range []string{c.keep0, c.keep1} {
			d := disk.New(100)
			put(t, d, "a", "ab", "cd")
			put(t, d, "b", "123", "")
			is(t, fmt.Sprint("Cut to ", c.n), d.Cut("a", c.n), 0)
			holds(t, d, "a", c.left)
			holds(t, d, "b", "123")
			done(t, d.Append("a", []byte("XYZ")))
			holds(t, d, "a", c.left+"XYZ")
			fall(t, d, keep)
			d.Open()
			holds(t, d, "a", want)
			holds(t, d, "b", "123")
		}
	}
}

// P4.2
func TestCutThatMayNotBe(t *testing.T) {
	d := disk.New(100)
	put(t, d, "a", "ab", "cd")
	done(t, d.Create("b"))
	for _, n := range []int{math.MinInt, -5, -1, 5, 6, 100, math.MaxInt} {
		is(t, fmt.Sprint("Cut to ", n), d.Cut("a", n), api.ErrArg)
		is(t, fmt.Sprint("Cut of none to ", n), d.Cut("z", n), api.ErrNone)
		is(t, fmt.Sprint("Cut of an empty one to ", n), d.Cut("b", n), api.ErrArg)
	}
	is(t, "Cut of an empty one to 1", d.Cut("b", 1), api.ErrArg)
	done(t, d.Cut("b", 0))
	done(t, d.Cut("a", 2))
	is(t, "Cut to what was there", d.Cut("a", 3), api.ErrArg)
	holds(t, d, "a", "ab")
	counts(t, d, 2, 7)
}

// P4.2: a file takes all its bytes along, and which of them are synced.
func TestRename(t *testing.T) {
	d := disk.New(100)
	put(t, d, "a", "ab", "cd")
	done(t, d.Rename("a", "b"))
	listed(t, d, "b")
	holds(t, d, "b", "abcd")
	is(t, "Len of the old name", length("a")(d), api.ErrNone)
	fall(t, d, 1)
	d.Open()
	listed(t, d, "b")
	holds(t, d, "b", "abc")
}

// P4.2: what had that name is gone, and so is what it had synced.
func TestRenameOverAnother(t *testing.T) {
	d := disk.New(100)
	put(t, d, "a", "ab", "cd")
	put(t, d, "b", "123456", "789")
	put(t, d, "c", "xyz", "")
	done(t, d.Rename("a", "b"))
	listed(t, d, "b", "c")
	holds(t, d, "b", "abcd")
	holds(t, d, "c", "xyz")
	done(t, d.Append("b", []byte("ef")))
	holds(t, d, "b", "abcdef")
	fall(t, d, 0)
	d.Open()
	holds(t, d, "b", "ab")
	done(t, d.Create("a"))
	holds(t, d, "a", "")
}

// P4.2: a rename that crashes leaves both files.
func TestRenameThatCrashes(t *testing.T) {
	d := disk.New(100)
	put(t, d, "a", "ab", "cd")
	put(t, d, "b", "12", "34")
	d.Plan(0, 1)
	is(t, "the crash", d.Rename("a", "b"), api.ErrDisk)
	d.Open()
	listed(t, d, "a", "b")
	holds(t, d, "a", "abc")
	holds(t, d, "b", "123")
}

// P4.2: it is an effect, and nothing else changes.
func TestRenameToItself(t *testing.T) {
	d := disk.New(100)
	put(t, d, "a", "ab", "cd")
	put(t, d, "b", "1", "")
	done(t, d.Rename("a", "a"))
	listed(t, d, "a", "b")
	holds(t, d, "a", "abcd")
	counts(t, d, 5, 9)
	fall(t, d, 1)
	d.Open()
	holds(t, d, "a", "abc")
}

// P4.2
func TestRenameOfNone(t *testing.T) {
	d := disk.New(100)
	put(t, d, "a", "ab", "")
	is(t, "Rename of none over a file", d.Rename("z", "a"), api.ErrNone)
	is(t, "Rename of none to itself", d.Rename("z", "z"), api.ErrNone)
	done(t, d.Rename("a", "b"))
	is(t, "Rename of what was there", d.Rename("a", "b"), api.ErrNone)
	holds(t, d, "b", "ab")
	listed(t, d, "b")
}

// P4.2: two files change their names by a third one.
func TestRenameInARing(t *testing.T) {
	d := disk.New(100)
	put(t, d, "a", "1", "2")
	put(t, d, "b", "345", "")
	done(t, d.Rename("a", "t"))
	done(t, d.Rename("b", "a"))
	done(t, d.Rename("t", "b"))
	listed(t, d, "a", "b")
	holds(t, d, "a", "345")
	holds(t, d, "b", "12")
}

// P4.2
func TestDelete(t *testing.T) {
	d := disk.New(100)
	put(t, d, "a", "ab", "cd")
	put(t, d, "b", "12", "")
	done(t, d.Delete("a"))
	listed(t, d, "b")
	is(t, "Delete twice", d.Delete("a"), api.ErrNone)
	is(t, "Sync of what is gone", d.Sync("a"), api.ErrNone)
	is(t, "Append to what is gone", d.Append("a", []byte("x")), api.ErrNone)
	is(t, "Read of what is gone", read("a", 0, 0)(d), api.ErrNone)
	holds(t, d, "b", "12")
	counts(t, d, 2, 9)
	fall(t, d, 100)
	d.Open()
	listed(t, d, "b")
}

// P4.3: each place and count of a file of five bytes.
func TestReadEachPiece(t *testing.T) {
	const text = "abcde"
	d := disk.New(100)
	put(t, d, "a", text[:2], text[2:])
	for at := -2; at <= 7; at++ {
		for n := -2; n <= 7; n++ {
			what := fmt.Sprintf("Read(%d, %d)", at, n)
			if at < 0 || n < 0 || at+n > 5 {
				is(t, what, read("a", at, n)(d), api.ErrArg)
				continue
			}
			b, err := d.Read("a", at, n)
			is(t, what, err, 0)
			if string(b) != text[at:at+n] {
				t.Errorf("%s is %q, not %q", what, b, text[at:at+n])
			}
		}
	}
	counts(t, d, 5, 4)
}

// P4.3
func TestReadFarOut(t *testing.T) {
	far := []int{math.MinInt, math.MinInt + 1, math.MinInt + 5, -1, 6, 1 << 31, 1 << 32, math.MaxInt - 5, math.MaxInt - 1, math.MaxInt}
	d := disk.New(100)
	put(t, d, "a", "abc", "de")
	done(t, d.Create("b"))
	for _, x := range far {
		for _, y := range append(far, 0, 1, 5) {
			is(t, fmt.Sprintf("Read(%d, %d)", x, y), read("a", x, y)(d), api.ErrArg)
			is(t, fmt.Sprintf("Read(%d, %d)", y, x), read("a", y, x)(d), api.ErrArg)
			is(t, fmt.Sprintf("Read of an empty one(%d, %d)", x, y), read("b", x, y)(d), api.ErrArg)
			is(t, fmt.Sprintf("Read of none(%d, %d)", x, y), read("z", x, y)(d), api.ErrNone)
		}
	}
}

// P4.3
func TestReadOfNoBytes(t *testing.T) {
	d := disk.New(100)
	put(t, d, "a", "ab", "c")
	done(t, d.Create("b"))
	for at := range 4 {
		if b, err := d.Read("a", at, 0); len(b) != 0 || err != nil {
			t.Errorf("Read(%d, 0) is %q, %v", at, b, err)
		}
	}
	is(t, "behind the end", read("a", 4, 0)(d), api.ErrArg)
	if b, err := d.Read("b", 0, 0); len(b) != 0 || err != nil {
		t.Errorf("Read(0, 0) of an empty one is %q, %v", b, err)
	}
	is(t, "behind the end of an empty one", read("b", 1, 0)(d), api.ErrArg)
}

// P4.3: what was cut, or went down, isn't read any more.
func TestReadOfWhatIsGone(t *testing.T) {
	d := disk.New(100)
	put(t, d, "a", "ab", "cdef")
	done(t, d.Cut("a", 4))
	is(t, "Read of what was cut", read("a", 4, 1)(d), api.ErrArg)
	fall(t, d, 1)
	d.Open()
	is(t, "Read of what went down", read("a", 3, 1)(d), api.ErrArg)
	holds(t, d, "a", "abc")
}

// P4.3: reading is no effect: a plan for now stays.
func TestReadWithAPlan(t *testing.T) {
	d := disk.New(100)
	put(t, d, "a", "ab", "cd")
	d.Plan(0, 0)
	for range 5 {
		holds(t, d, "a", "abcd")
		is(t, "Read of none", read("z", 0, 0)(d), api.ErrNone)
		is(t, "Read beyond the end", read("a", 0, 5)(d), api.ErrArg)
		is(t, "Len of none", length("z")(d), api.ErrNone)
	}
	if d.Down() {
		t.Error("reading takes it down")
	}
	is(t, "the crash", d.Cut("a", 0), api.ErrDisk)
}

// P4.4
func TestAppendKeepsNothing(t *testing.T) {
	d := disk.New(1000)
	done(t, d.Create("a"))
	done(t, d.Create("b"))
	memory := []byte("abcdefgh")
	done(t, d.Append("a", memory[:4]))
	done(t, d.Append("b", memory[2:6]))
	for i := range memory {
		memory[i] = '.'
	}
	holds(t, d, "a", "abcd")
	holds(t, d, "b", "cdef")
	done(t, d.Append("a", memory[:2]))
	memory[0] = '!'
	holds(t, d, "a", "abcd..")
}

// P4.4: not even what lies behind the bytes that are handed in.
func TestAppendChangesNothing(t *testing.T) {
	d := disk.New(1000)
	done(t, d.Create("a"))
	memory := []byte("abcdefgh")
	for range 5 {
		done(t, d.Append("a", memory[:3]))
		done(t, d.Append("a", []byte("XYZ")))
		done(t, d.Cut("a", 1))
		done(t, d.Append("a", []byte("UVW")))
		done(t, d.Append("a", memory[:0]))
		done(t, d.Append("a", []byte("1")))
		done(t, d.Cut("a", 0))
	}
	if string(memory) != "abcdefgh" {
		t.Errorf("the bytes became %q", memory)
	}
}

// P4.4
func TestReadIsNewMemory(t *testing.T) {
	d := disk.New(1000)
	put(t, d, "a", "abcd", "efgh")
	whole, err := d.Read("a", 0, 8)
	done(t, err)
	piece, err := d.Read("a", 2, 3)
	done(t, err)
	for i := range whole {
		whole[i] = '.'
	}
	if string(piece) != "cde" {
		t.Errorf("a change of one answer is seen in another: %q", piece)
	}
	piece = append(piece, "......"...)
	holds(t, d, "a", "abcdefgh")
	piece[0] = '!'
	holds(t, d, "a", "abcdefgh")
	// Nor is a later change of the file seen in an answer.
	again, err := d.Read("a", 0, 8)
	done(t, err)
	done(t, d.Cut("a", 0))
	done(t, d.Append("a", []byte("12345678")))
	if string(again) != "abcdefgh" {
		t.Errorf("a change of the file is seen in what was read: %q", again)
	}
}

// P4.4: what was read and is appended again is a copy once more.
func TestAppendOfWhatWasRead(t *testing.T) {
	d := disk.New(1000)
	put(t, d, "a", "abcd", "")
	done(t, d.Create("b"))
	b, err := d.Read("a", 0, 4)
	done(t, err)
	done(t, d.Append("a", b))
	done(t, d.Append("b", b))
	b[0] = '.'
	done(t, d.Cut("a", 2))
	done(t, d.Append("a", []byte("XY")))
	holds(t, d, "a", "abXY")
	holds(t, d, "b", "abcd")
}

// P4.4
func TestListIsNewMemory(t *testing.T) {
	d := disk.New(10)
	for _, name := range []string{"b", "a", "c"} {
		done(t, d.Create(name))
	}
	first, second := d.List(), d.List()
	for i := range first {
		first[i] = "."
	}
	if !slices.Equal(second, []string{"a", "b", "c"}) {
		t.Errorf("a change of one list is seen in another: %q", second)
	}
	listed(t, d, "a", "b", "c")
	done(t, d.Delete("b"))
	if !slices.Equal(second, []string{"a", "b", "c"}) {
		t.Errorf("a change of the disk is seen in a list: %q", second)
	}
}

// P4.5: whatever the plan, and whatever is done behind a Sync but Cut, Rename and Delete.
func TestSyncedBytesStay(t *testing.T) {
	numbers := []int{math.MinInt, -1, 0, 1, 2, 3, 4, 5, 6, 100, math.MaxInt}
	for _, effects := range numbers {
		for _, keep := range numbers {
			d := disk.New(1000)
			put(t, d, "a", "synced", "not")
			put(t, d, "b", "too", "")
			d.Plan(effects, keep)
			for i := range 10 {
				if d.Append("a", []byte{byte(i)}) != nil {
					break
				}
			}
			d.Open()
			for name, want := range map[string]string{"a": "synced", "b": "too"} {
				b, err := d.Read(name, 0, len(want))
				if string(b) != want || err != nil {
					t.Errorf("Plan(%d, %d): %q begins with %q (%v)", effects, keep, name, b, err)
				}
			}
		}
	}
}

// The chapter's example.
func TestExample(t *testing.T) {
	d := disk.New(10)
	done(t, d.Create("a"))
	d.Plan(0, 0)
	is(t, "Append", d.Append("a", []byte("x")), api.ErrDisk)
	if !d.Down() {
		t.Error("it isn't down")
	}
}
