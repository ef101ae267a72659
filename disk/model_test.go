package disk_test

import (
	"fmt"
	"math"
	"math/rand"
	"slices"
	"testing"

	"hassock/api"
	"hassock/disk"
)

// modelFile is a file in the model: two texts, one ahead of the other.
type modelFile struct{ name, synced, unsynced string }

// model is a disk as the chapter tells it, with files in no order.
type model struct {
	files         []modelFile
	capacity      int
	effects       int
	down, planned bool
	wait, keep    int
}

// at is where the file of a name is, or -1.
func (m *model) at(name string) int {
	return slices.IndexFunc(m.files, func(f modelFile) bool { return f.name == name })
}

func (m *model) used() int {
	n := 0
	for _, f := range m.files {
		n += len(f.synced) + len(f.unsynced)
	}
	return n
}

func (m *model) names() []string {
	var l []string
	for _, f := range m.files {
		l = append(l, f.name)
	}
	slices.Sort(l)
	return l
}

// effect does one, unless it is down, the call is refused, or the plan is for now.
func (m *model) effect(refused api.Code, do func()) api.Code {
	switch {
	case m.down:
		return api.ErrDisk
	case refused != 0:
		return refused
	case m.planned && m.wait == 0:
		m.down = true
		for i, f := range m.files {
			for range m.keep {
				if f.unsynced == "" {
					break
				}
				f.synced += f.unsynced[:1]
				f.unsynced = f.unsynced[1:]
			}
			f.unsynced = ""
			m.files[i] = f
		}
		return api.ErrDisk
	}
	m.wait--
	m.effects++
	do()
	return 0
}

func (m *model) create(name string) api.Code {
	var refused api.Code
	if m.at(name) >= 0 {
		refused = api.ErrTwice
	} else if len(m.files) == 1000 {
		refused = api.ErrSpace
	}
	return m.effect(refused, func() { m.files = append(m.files, modelFile{name: name}) })
}

func (m *model) append(name string, b []byte) api.Code {
	var refused api.Code
	i := m.at(name)
	if i < 0 {
		refused = api.ErrNone
	} else if m.used()+len(b) > m.capacity {
		refused = api.ErrSpace
	}
	return m.effect(refused, func() { m.files[i].unsynced += string(b) })
}

func (m *model) sync(name string) api.Code {
	var refused api.Code
	i := m.at(name)
	if i < 0 {
		refused = api.ErrNone
	}
	return m.effect(refused, func() {
		f := &m.files[i]
		f.synced, f.unsynced = f.synced+f.unsynced, ""
	})
}

func (m *model) cut(name string, n int) api.Code {
	var refused api.Code
	i := m.at(name)
	if i < 0 {
		refused = api.ErrNone
	} else if n < 0 || n > len(m.files[i].synced+m.files[i].unsynced) {
		refused = api.ErrArg
	}
	return m.effect(refused, func() {
		f := &m.files[i]
		if n <= len(f.synced) {
			f.synced, f.unsynced = f.synced[:n], ""
		} else {
			f.unsynced = f.unsynced[:n-len(f.synced)]
		}
	})
}

func (m *model) rename(from, to string) api.Code {
	var refused api.Code
	if m.at(from) < 0 {
		refused = api.ErrNone
	}
	return m.effect(refused, func() {
		if from == to {
			return
		}
		if old := m.at(to); old >= 0 {
			m.files = slices.Delete(m.files, old, old+1)
		}
		m.files[m.at(from)].name = to
	})
}

func (m *model) delete(name string) api.Code {
	var refused api.Code
	i := m.at(name)
	if i < 0 {
		refused = api.ErrNone
	}
	return m.effect(refused, func() { m.files = slices.Delete(m.files, i, i+1) })
}

func (m *model) read(name string, at, n int) (string, api.Code) {
	i := m.at(name)
	if m.down {
		return "", api.ErrDisk
	}
	if i < 0 {
		return "", api.ErrNone
	}
	text := m.files[i].synced + m.files[i].unsynced
	if at < 0 || n < 0 || at > len(text) || n > len(text) || at+n > len(text) {
		return "", api.ErrArg
	}
	return text[at : at+n], 0
}

func (m *model) plan(effects, keep int) {
	m.planned, m.wait, m.keep = true, max(effects, 0), max(keep, 0)
}

func (m *model) open() { m.planned, m.down = false, false }

// modelNames are few, so that calls meet the same files.
var modelNames = []string{"", "a", "b", "a\x00", "\xff", "s1", "s10"}

// number is a small one mostly, and sometimes one of the ends.
func number(random *rand.Rand) int {
	switch random.Intn(20) {
	case 0:
		return math.MinInt
	case 1:
		return math.MaxInt
	}
	return random.Intn(9) - 2
}

// one does the same call on both, and tells which, and what each told.
func one(random *rand.Rand, d *disk.Disk, m *model) (string, error, api.Code) {
	name := modelNames[random.Intn(len(modelNames))]
	other := modelNames[random.Intn(len(modelNames))]
	x, y := number(random), number(random)
	switch random.Intn(13) {
	case 0, 1:
		return fmt.Sprintf("Create(%q)", name), d.Create(name), m.create(name)
	case 2, 3, 4, 5:
		b := make([]byte, random.Intn(7))
		random.Read(b)
		return fmt.Sprintf("Append(%q, %v)", name, b), d.Append(name, b), m.append(name, b)
	case 6:
		return fmt.Sprintf("Sync(%q)", name), d.Sync(name), m.sync(name)
	case 7:
		return fmt.Sprintf("Cut(%q, %d)", name, x), d.Cut(name, x), m.cut(name, x)
	case 8:
		return fmt.Sprintf("Rename(%q, %q)", name, other), d.Rename(name, other), m.rename(name, other)
	case 9:
		return fmt.Sprintf("Delete(%q)", name), d.Delete(name), m.delete(name)
	case 10:
		what := fmt.Sprintf("Read(%q, %d, %d)", name, x, y)
		b, err := d.Read(name, x, y)
		text, want := m.read(name, x, y)
		if string(b) != text {
			return what, fmt.Errorf("%q and %v, not %q", b, err, text), want
		}
		return what, err, want
	case 11:
		d.Plan(x, y)
		m.plan(x, y)
		return fmt.Sprintf("Plan(%d, %d)", x, y), nil, 0
	}
	if !m.down && random.Intn(3) > 0 {
		return "nothing", nil, 0
	}
	d.Open()
	m.open()
	return "Open", nil, 0
}

// same holds all that a disk tells against the model; what it hides while it is down is held behind the next Open.
func same(t *testing.T, d *disk.Disk, m *model) {
	t.Helper()
	if d.Down() != m.down || d.Used() != m.used() || d.Effects() != m.effects || !slices.Equal(d.List(), m.names()) {
		t.Fatalf("down %v, %d bytes, %d effects, %q; not %v, %d, %d, %q",
			d.Down(), d.Used(), d.Effects(), d.List(), m.down, m.used(), m.effects, m.names())
	}
	if m.used() > m.capacity && m.used() > 0 {
		t.Fatalf("%d bytes of %d", m.used(), m.capacity)
	}
	if m.down {
		return
	}
	for _, f := range m.files {
		text := f.synced + f.unsynced
		n, err := d.Len(f.name)
		if n != len(text) || err != nil {
			t.Fatalf("%q has %d bytes, %v, not %d", f.name, n, err, len(text))
		}
		b, err := d.Read(f.name, 0, n)
		if string(b) != text || err != nil {
			t.Fatalf("%q is %q, %v, not %q", f.name, b, err, text)
		}
	}
}

// P4.1, P4.2, P4.3, P4.5: any calls, in any order.
func TestAsTheModel(t *testing.T) {
	random := rand.New(rand.NewSource(1))
	for script := range 3000 {
		capacity := random.Intn(42) - 2
		d, m := disk.New(capacity), &model{capacity: capacity}
		for step := range 120 {
			what, err, want := one(random, d, m)
			is(t, fmt.Sprintf("script %d, step %d, %s", script, step, what), err, want)
			same(t, d, m)
			if t.Failed() {
				t.FailNow()
			}
		}
	}
}

// P4.5: what Sync was told of stays, by itself and not by the model: each plan, at each place of a script.
func TestSyncedBytesStayAtEachCrash(t *testing.T) {
	random := rand.New(rand.NewSource(2))
	for range 2000 {
		d := disk.New(60)
		if err := d.Create("a"); err != nil {
			t.Fatal(err)
		}
		synced, all := "", ""
		for range 60 {
			if random.Intn(6) == 0 {
				d.Plan(random.Intn(4), random.Intn(9))
			}
			b := make([]byte, random.Intn(6))
			random.Read(b)
			if random.Intn(4) == 0 {
				if d.Sync("a") == nil {
					synced = all
				}
			} else if d.Append("a", b) == nil {
				all += string(b)
			}
			down := d.Down()
			if down {
				d.Open()
			}
			n, _ := d.Len("a")
			left, err := d.Read("a", 0, n)
			if err != nil || n < len(synced) || n > len(all) || string(left) != all[:n] || d.Used() > 60 {
				t.Fatalf("%q is left (%v) of %q, synced was %q", left, err, all, synced)
			}
			if down {
				synced, all = string(left), string(left)
			}
			if len(all) > 50 {
				if err := d.Cut("a", 3); err == nil {
					synced, all = synced[:min(3, len(synced))], all[:3]
				}
			}
			if d.Down() {
				d.Open()
				n, _ := d.Len("a")
				synced, all = all[:n], all[:n]
			}
		}
	}
}
