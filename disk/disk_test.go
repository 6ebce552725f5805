package disk_test

import (
	"bytes"
	"maps"
	"math"
	"math/rand/v2"
	"slices"
	"strconv"
	"strings"
	"testing"
	"unsafe"

	"stoa/api"
	"stoa/disk"
)

// plain is a disk as the chapter tells it: each file has a number, and each state of the directory since the safe one is kept whole.
type plain struct {
	room  int
	data  map[int]string
	safe  map[int]int
	dirs  []map[string]int // the safe directory, and how it was behind each of its changes
	plan  []api.Fate
	steps int
	off   bool
}

func newPlain(room int) *plain {
	if room < 0 {
		room = 0
	}
	if room > 16777216 {
		room = 16777216
	}
	return &plain{room: room, data: map[int]string{}, safe: map[int]int{}, dirs: []map[string]int{{}}}
}

// plainName holds every byte against all that there may be.
func plainName(name string) bool {
	for i := range len(name) {
		if !strings.Contains("abcdefghijklmnopqrstuvwxyz0123456789._-", name[i:i+1]) {
			return false
		}
	}
	return name != "" && len(name) <= 40
}

func (p *plain) dir() map[string]int {
	return p.dirs[len(p.dirs)-1]
}

func (p *plain) has(name string) bool {
	_, ok := p.dir()[name]
	return ok
}

// changed puts another state of the directory behind the last one.
func (p *plain) changed(change func(dir map[string]int)) {
	dir := maps.Clone(p.dir())
	change(dir)
	p.dirs = append(p.dirs, dir)
}

func (p *plain) used() int {
	n := 0
	for _, id := range p.dir() {
		n += len(p.data[id])
	}
	return n
}

// A call is one step of a disk, or one call that isn't counted.
type call struct {
	name  string
	a, b  string
	n, m  int
	keeps []int
	fates []api.Fate
}

// do is a step as if there were no fate.
func (p *plain) do(c call) api.Errno {
	switch c.name {
	case "Create":
		if !plainName(c.a) {
			return api.ErrName
		}
		if p.has(c.a) {
			return api.ErrExist
		}
		if len(p.dir()) == 400 {
			return api.ErrFull
		}
		id := len(p.data)
		p.data[id] = ""
		p.changed(func(dir map[string]int) { dir[c.a] = id })
	case "Append":
		if !p.has(c.a) {
			return api.ErrNone
		}
		if p.used()+len(c.b) > p.room {
			return api.ErrFull
		}
		p.data[p.dir()[c.a]] += c.b
	case "Sync":
		if !p.has(c.a) {
			return api.ErrNone
		}
		p.safe[p.dir()[c.a]] = len(p.data[p.dir()[c.a]])
	case "Rename":
		if !p.has(c.a) {
			return api.ErrNone
		}
		if !plainName(c.b) {
			return api.ErrName
		}
		if c.a != c.b {
			p.changed(func(dir map[string]int) {
				id := dir[c.a]
				delete(dir, c.a)
				dir[c.b] = id
			})
		}
	case "Remove":
		if !p.has(c.a) {
			return api.ErrNone
		}
		p.changed(func(dir map[string]int) { delete(dir, c.a) })
	case "SyncDir":
		p.dirs = p.dirs[len(p.dirs)-1:]
	}
	return api.OK
}

// fate is the first one of the plan with this step's number.
func (p *plain) fate() api.Fate {
	for _, f := range p.plan {
		if f.Step == p.steps {
			return f
		}
	}
	return api.Fate{}
}

func (p *plain) step(c call) api.Errno {
	if p.off {
		return api.ErrPower
	}
	p.steps++
	f := p.fate()
	switch f.Kind {
	case 1:
		return api.ErrDisk
	case 2:
		if c.name == "Append" && p.has(c.a) {
			for i := 0; i < f.N && i < len(c.b) && p.used() < p.room; i++ {
				p.data[p.dir()[c.a]] += c.b[i : i+1]
			}
		}
		return api.ErrFull
	case 3:
		p.off = true
		return api.ErrPower
	case 4:
		p.do(c)
		p.off = true
		return api.ErrPower
	}
	return p.do(c)
}

func (p *plain) turnOn(keeps []int) {
	keep := func(i, n int) int {
		switch {
		case i >= len(keeps) || keeps[i] < 0:
			return 0
		case keeps[i] > n:
			return n
		}
		return keeps[i]
	}
	p.dirs = p.dirs[keep(0, len(p.dirs)-1):][:1]
	for i, name := range slices.Sorted(maps.Keys(p.dir())) {
		id := p.dir()[name]
		p.safe[id] += keep(i+1, len(p.data[id])-p.safe[id])
		p.data[id] = p.data[id][:p.safe[id]]
	}
	p.off = false
}

func (p *plain) flip(i, at int, mask byte) api.Errno {
	names := slices.Sorted(maps.Keys(p.dir()))
	if i < 0 || i >= len(names) {
		return api.ErrArg
	}
	id := p.dir()[names[i]]
	if at < 0 || at >= p.safe[id] {
		return api.ErrArg
	}
	b := []byte(p.data[id])
	b[at] ^= mask
	p.data[id] = string(b)
	return api.OK
}

func (p *plain) read(name string, at, n int) ([]byte, api.Errno) {
	if p.off {
		return nil, api.ErrPower
	}
	if !p.has(name) {
		return nil, api.ErrNone
	}
	if at < 0 || n < 0 {
		return nil, api.ErrArg
	}
	data := p.data[p.dir()[name]]
	var b []byte
	for i := at; i < len(data) && len(b) < n; i++ {
		b = append(b, data[i])
	}
	if len(b) < n {
		return nil, api.ErrArg
	}
	return b, api.OK
}

func (p *plain) size(name string) (int, api.Errno) {
	if p.off {
		return 0, api.ErrPower
	}
	if !p.has(name) {
		return 0, api.ErrNone
	}
	return len(p.data[p.dir()[name]]), api.OK
}

func (p *plain) list() ([]string, api.Errno) {
	if p.off {
		return nil, api.ErrPower
	}
	return slices.Sorted(maps.Keys(p.dir())), api.OK
}

func (p *plain) filesOf(dir map[string]int, safe bool) []api.File {
	var files []api.File
	for _, name := range slices.Sorted(maps.Keys(dir)) {
		data := p.data[dir[name]]
		if safe {
			data = data[:p.safe[dir[name]]]
		}
		files = append(files, api.File{Name: name, Data: []byte(data)})
	}
	return files
}

// plainLoad is nil beside an error.
func plainLoad(room int, files ...api.File) (*plain, api.Errno) {
	p := newPlain(room)
	for i, f := range files {
		if e := p.do(call{name: "Create", a: f.Name}); e != api.OK {
			return nil, e
		}
		p.data[i] = string(f.Data)
		p.safe[i] = len(f.Data)
	}
	p.do(call{name: "SyncDir"})
	return p, api.OK
}

// carry does a call on both, and holds their answers against each other.
func carry(t *testing.T, d *disk.Disk, p *plain, c call) {
	t.Helper()
	var got, want api.Errno
	switch c.name {
	case "Create":
		got, want = d.Create(c.a), p.step(c)
	case "Append":
		got, want = d.Append(c.a, []byte(c.b)), p.step(c)
	case "Sync":
		got, want = d.Sync(c.a), p.step(c)
	case "Rename":
		got, want = d.Rename(c.a, c.b), p.step(c)
	case "Remove":
		got, want = d.Remove(c.a), p.step(c)
	case "SyncDir":
		got, want = d.SyncDir(), p.step(c)
	case "Flip":
		got, want = d.Flip(c.n, c.m, 0x81), p.flip(c.n, c.m, 0x81)
	case "Plan":
		d.Plan(c.fates...)
		p.plan = c.fates
	case "Off":
		d.Off()
		p.off = true
	case "On":
		d.On(c.keeps...)
		p.turnOn(c.keeps)
	default:
		t.Fatalf("no such call: %s", c.name)
	}
	if got != want {
		t.Errorf("%+v = %d; want %d", c, got, want)
	}
}

func sameFiles(a, b []api.File) bool {
	return slices.EqualFunc(a, b, func(x, y api.File) bool {
		return x.Name == y.Name && bytes.Equal(x.Data, y.Data)
	})
}

// wantDisk holds what a disk tells against the plain one.
func wantDisk(t *testing.T, d *disk.Disk, p *plain) {
	t.Helper()
	if d.Power() == p.off || d.Steps() != p.steps || d.Used() != p.used() || d.Loose() != len(p.dirs)-1 {
		t.Errorf("power %t, %d steps, %d used, %d loose; want %t, %d, %d, %d", d.Power(), d.Steps(), d.Used(), d.Loose(), !p.off, p.steps, p.used(), len(p.dirs)-1)
	}
	if got, want := d.Files(), p.filesOf(p.dir(), false); !sameFiles(got, want) {
		t.Errorf("Files = %q; want %q", got, want)
	}
	if got, want := d.Safe(), p.filesOf(p.dirs[0], true); !sameFiles(got, want) {
		t.Errorf("Safe = %q; want %q", got, want)
	}
}

// wantReads holds what is read by these names, and of all places up to one behind the end, against the plain disk.
func wantReads(t *testing.T, d *disk.Disk, p *plain, names ...string) {
	t.Helper()
	got, e := d.List()
	want, wantErr := p.list()
	if !slices.Equal(got, want) || e != wantErr {
		t.Errorf("List = %q, %d; want %q, %d", got, e, want, wantErr)
	}
	for _, name := range names {
		size, e := d.Size(name)
		wantSize, wantErr := p.size(name)
		if size != wantSize || e != wantErr {
			t.Errorf("Size(%q) = %d, %d; want %d, %d", name, size, e, wantSize, wantErr)
		}
		for at := -1; at <= size+2; at++ {
			for n := -1; n <= size-at+2; n++ {
				wantRead(t, d, p, name, at, n)
			}
		}
	}
}

func wantRead(t *testing.T, d *disk.Disk, p *plain, name string, at, n int) {
	t.Helper()
	b, e := d.Read(name, at, n)
	want, wantErr := p.read(name, at, n)
	if !bytes.Equal(b, want) || e != wantErr {
		t.Errorf("Read(%q, %d, %d) = %q, %d; want %q, %d", name, at, n, b, e, want, wantErr)
	}
	if e != api.OK && b != nil {
		t.Errorf("Read(%q, %d, %d) answers %q beside %d", name, at, n, b, e)
	}
}

// made is a disk and its plain one behind these calls.
func made(t *testing.T, room int, calls ...call) (*disk.Disk, *plain) {
	t.Helper()
	d, p := disk.New(room), newPlain(room)
	for _, c := range calls {
		carry(t, d, p, c)
	}
	wantDisk(t, d, p)
	return d, p
}

func wantErrs(t *testing.T, what string, got api.Errno, want api.Errno) {
	t.Helper()
	if got != want {
		t.Errorf("%s = %d; want %d", what, got, want)
	}
}

// wantHas holds all files against these names and bytes, one behind the other.
func wantHas(t *testing.T, what string, files []api.File, want ...string) {
	t.Helper()
	var got []string
	for _, f := range files {
		got = append(got, f.Name, string(f.Data))
	}
	if !slices.Equal(got, want) {
		t.Errorf("%s: %q; want %q", what, got, want)
	}
}

// begun is the disk with which the chapter's examples begin.
func begun(t *testing.T) *disk.Disk {
	t.Helper()
	d := disk.New(10)
	for i, e := range []api.Errno{d.Create("a"), d.Append("a", []byte("xyz")), d.Sync("a"), d.SyncDir()} {
		if e != api.OK {
			t.Fatalf("step %d = %d", i+1, e)
		}
	}
	return d
}

// P14.1: the chapter's examples.
func TestExamples(t *testing.T) {
	d := begun(t)
	wantErrs(t, "Append", d.Append("a", []byte("uv")), api.OK)
	wantHas(t, "Files", d.Files(), "a", "xyzuv")
	wantHas(t, "Safe", d.Safe(), "a", "xyz")
	d.On(0, 1)
	wantHas(t, "On(0, 1)", d.Files(), "a", "xyzu")
	wantHas(t, "On(0, 1), Safe", d.Safe(), "a", "xyzu")

	for _, x := range []struct {
		keeps []int
		want  []string
	}{{nil, []string{"a", "xyz"}}, {[]int{0}, []string{"a", "xyz"}}, {[]int{1}, []string{"a", "xyz", "b", "w"}}, {[]int{2}, []string{"a", "w"}}} {
		d := begun(t)
		for i, e := range []api.Errno{d.Create("b"), d.Append("b", []byte("w")), d.Sync("b"), d.Rename("b", "a")} {
			wantErrs(t, "step "+strconv.Itoa(i+5), e, api.OK)
		}
		wantHas(t, "Safe", d.Safe(), "a", "xyz")
		if d.Loose() != 2 || d.Steps() != 8 || d.Used() != 1 {
			t.Errorf("%d loose, %d steps, %d used", d.Loose(), d.Steps(), d.Used())
		}
		d.On(x.keeps...)
		wantHas(t, "On", d.Files(), x.want...)
		wantHas(t, "On, Safe", d.Safe(), x.want...)
		if d.Loose() != 0 || d.Steps() != 8 || !d.Power() {
			t.Errorf("%d loose, %d steps, power %t", d.Loose(), d.Steps(), d.Power())
		}
	}
}

// P14.1: a disk on which nothing was done.
func TestNew(t *testing.T) {
	for _, room := range []int{math.MinInt, -1, 0, 1, 10, 16777216, 16777217, math.MaxInt} {
		d, p := disk.New(room), newPlain(room)
		wantDisk(t, d, p)
		wantReads(t, d, p, "", "a", "A")
		loaded, e := disk.Load(room)
		wantErrs(t, "Load", e, api.OK)
		wantDisk(t, loaded, p)
		wantReads(t, loaded, p, "", "a", "A")
		d.On(1, 2, 3)
		wantDisk(t, d, p)
	}
}

// P14.1: room for so many bytes and no more, over all files.
func TestRoom(t *testing.T) {
	big := make([]byte, 16777217)
	for _, x := range []struct{ room, all int }{{math.MinInt, 0}, {-1, 0}, {0, 0}, {1, 1}, {5, 5}, {16777215, 16777215}, {16777216, 16777216}, {16777217, 16777216}, {math.MaxInt, 16777216}} {
		d := disk.New(x.room)
		d.Create("a")
		d.Create("b")
		wantErrs(t, "Append of one too many", d.Append("a", big[:x.all+1]), api.ErrFull)
		if d.Used() != 0 {
			t.Errorf("New(%d): %d bytes are used", x.room, d.Used())
		}
		wantErrs(t, "Append of all", d.Append("a", big[:x.all]), api.OK)
		wantErrs(t, "Append of nothing", d.Append("b", nil), api.OK)
		wantErrs(t, "Append of one", d.Append("b", []byte("x")), api.ErrFull)
		wantErrs(t, "Append of one", d.Append("a", []byte("x")), api.ErrFull)
		wantErrs(t, "Append to none", d.Append("c", []byte("x")), api.ErrNone)
		if n, e := d.Size("a"); n != x.all || e != api.OK || d.Used() != x.all {
			t.Errorf("New(%d): %d bytes, %d, %d used", x.room, n, e, d.Used())
		}
		wantErrs(t, "Remove", d.Remove("a"), api.OK)
		wantErrs(t, "Append of all", d.Append("b", big[:x.all]), api.OK)
	}
	calls := []call{{name: "Create", a: "a"}, {name: "Create", a: "b"}, {name: "Append", a: "a", b: "123"}, {name: "Append", a: "b", b: "456"}}
	for size := range 8 {
		d, p := made(t, 10, calls...)
		carry(t, d, p, call{name: "Append", a: "a", b: "1234567"[:size]})
		wantDisk(t, d, p)
	}
}

// P14.1: a disk with more than its room takes not even nothing.
func TestMoreThanRoom(t *testing.T) {
	files := []api.File{{Name: "a", Data: []byte("123456")}, {Name: "b"}}
	for _, room := range []int{-1, 0, 5, 6, 7} {
		d, e := disk.Load(room, files...)
		wantErrs(t, "Load", e, api.OK)
		p, _ := plainLoad(room, files...)
		wantDisk(t, d, p)
		carry(t, d, p, call{name: "Plan", fates: []api.Fate{{Step: 4, Kind: 2, N: 5}}})
		for _, b := range []string{"", "x", "y", "zz", ""} {
			carry(t, d, p, call{name: "Append", a: "b", b: b})
		}
		wantDisk(t, d, p)
	}
	// What was removed comes back, though its room was given away.
	d, p := made(t, 6, call{name: "Create", a: "a"}, call{name: "Append", a: "a", b: "123456"}, call{name: "Sync", a: "a"}, call{name: "SyncDir"},
		call{name: "Create", a: "b"}, call{name: "Remove", a: "a"}, call{name: "Append", a: "b", b: "7890"}, call{name: "Sync", a: "b"}, call{name: "On", keeps: []int{1}})
	wantHas(t, "On(1)", d.Files(), "a", "123456", "b", "7890")
	carry(t, d, p, call{name: "Append", a: "a"})
	carry(t, d, p, call{name: "Remove", a: "a"})
	carry(t, d, p, call{name: "Append", a: "b", b: "xy"})
	wantDisk(t, d, p)
}

// someNames are names of all lengths about the bound, and of all bytes.
func someNames() []string {
	names := []string{"", ".", "..", "-", "_", "wal-000001", "set-000007.redo-001", "super.tmp", "a/b", "a b", " a", "a ", "\u00e4", "a\x00", "\x00", "A", "aA"}
	for _, n := range []int{1, 2, 39, 40, 41, 42, 80, 1000} {
		names = append(names, strings.Repeat("a", n), strings.Repeat("a", n-1)+"\n", "\n"+strings.Repeat("a", n-1))
	}
	for c := range 256 {
		s := string([]byte{byte(c)})
		names = append(names, s, "x"+s, s+"x", "x"+s+"x")
	}
	return names
}

// P14.1: what a name is, for all calls that give one.
func TestNames(t *testing.T) {
	right := 0
	for _, name := range someNames() {
		d, p := disk.New(10), newPlain(10)
		carry(t, d, p, call{name: "Create", a: "0"})
		carry(t, d, p, call{name: "Create", a: name})
		wantReads(t, d, p, name)
		for _, what := range []string{"Append", "Sync", "Remove", "Remove"} {
			carry(t, d, p, call{name: what, a: name, b: "1"})
		}
		wantDisk(t, d, p)

		d, p = disk.New(10), newPlain(10)
		carry(t, d, p, call{name: "Create", a: "0"})
		carry(t, d, p, call{name: "Rename", a: name, b: name})
		carry(t, d, p, call{name: "Rename", a: "0", b: name})
		carry(t, d, p, call{name: "Rename", a: name, b: "0"})
		wantDisk(t, d, p)

		file := api.File{Name: name, Data: []byte("1")}
		d, e := disk.Load(10, file)
		p, wantErr := plainLoad(10, file)
		if e != wantErr || (d == nil) != (p == nil) {
			t.Errorf("Load of %q = %d; want %d", name, e, wantErr)
		}
		if p != nil {
			right++
			wantDisk(t, d, p)
		}
	}
	if right < 3*39 {
		t.Errorf("only %d names were right", right)
	}
}

// filesOf are n files of names that stand in another order than their numbers.
func filesOf(n int) []api.File {
	var files []api.File
	for i := range n {
		files = append(files, api.File{Name: "f" + strconv.Itoa(i), Data: []byte{byte(i), 1}})
	}
	return files
}

// P14.1: so many files and no more.
func TestManyFiles(t *testing.T) {
	for _, n := range []int{1, 399, 400} {
		d, e := disk.Load(1000, filesOf(n)...)
		wantErrs(t, "Load", e, api.OK)
		p, _ := plainLoad(1000, filesOf(n)...)
		wantDisk(t, d, p)
		wantReads(t, d, p, "f0", "f398", "f399", "f400")
		for _, c := range []call{
			{name: "Create", a: "f0"}, {name: "Create", a: "F"}, {name: "Create", a: "more"}, {name: "Create", a: "most"}, {name: "Create", a: "f0"}, {name: "Create", a: "F"},
			{name: "Rename", a: "f0", b: "other"}, {name: "Create", a: "f0"}, {name: "Remove", a: "other"}, {name: "Create", a: "f0"}, {name: "Create", a: "f0"}, {name: "Create", a: "last"},
		} {
			carry(t, d, p, c)
		}
		wantDisk(t, d, p)
		carry(t, d, p, call{name: "On", keeps: []int{3}})
		wantDisk(t, d, p)
	}
	d, p := disk.New(1000), newPlain(1000)
	for _, f := range filesOf(402) {
		carry(t, d, p, call{name: "Create", a: f.Name})
	}
	wantDisk(t, d, p)
}

// P14.1, P1: Load looks at one file behind the other; of each first at its name, then at those ahead, then at how many there are.
func TestLoadErrors(t *testing.T) {
	full := filesOf(400)
	a, wrong, first, more := api.File{Name: "a"}, api.File{Name: "A"}, full[0], api.File{Name: "more"}
	for _, x := range []struct {
		files []api.File
		want  api.Errno
	}{
		{[]api.File{a, a}, api.ErrExist}, {[]api.File{wrong}, api.ErrName}, {[]api.File{wrong, wrong}, api.ErrName}, {[]api.File{{}}, api.ErrName},
		{[]api.File{a, a, wrong}, api.ErrExist}, {[]api.File{a, wrong, a}, api.ErrName}, {[]api.File{a, more, a}, api.ErrExist},
		{slices.Concat(full, []api.File{more}), api.ErrFull}, {slices.Concat(full, []api.File{first}), api.ErrExist}, {slices.Concat(full, []api.File{wrong}), api.ErrName},
		{slices.Concat(full, []api.File{more, first}), api.ErrFull}, {slices.Concat(full, []api.File{more, wrong}), api.ErrFull}, {slices.Concat(full, []api.File{first, more}), api.ErrExist},
		{slices.Concat(full[:399], []api.File{a, more}), api.ErrFull}, {slices.Concat(full[:399], []api.File{first, a, more}), api.ErrExist},
		{slices.Concat(full, full), api.ErrExist}, {filesOf(401), api.ErrFull}, {filesOf(1000), api.ErrFull},
	} {
		d, e := disk.Load(10, x.files...)
		if d != nil || e != x.want {
			t.Errorf("Load of %d files = %v, %d; want %d", len(x.files), d, e, x.want)
		}
		if _, e := plainLoad(10, x.files...); e != x.want {
			t.Errorf("the plain Load of %d files = %d; want %d", len(x.files), e, x.want)
		}
	}
}

// P14.1: what is loaded is safe, and no step was made.
func TestLoad(t *testing.T) {
	files := []api.File{{Name: "b", Data: []byte("xyz")}, {Name: "a"}, {Name: "c", Data: []byte{0}}}
	for _, room := range []int{-1, 0, 3, 4, 5} {
		d, e := disk.Load(room, files...)
		wantErrs(t, "Load", e, api.OK)
		p, _ := plainLoad(room, files...)
		wantHas(t, "Files", d.Files(), "a", "", "b", "xyz", "c", "\x00")
		wantHas(t, "Safe", d.Safe(), "a", "", "b", "xyz", "c", "\x00")
		wantDisk(t, d, p)
		wantReads(t, d, p, "a", "b", "c", "d")
		carry(t, d, p, call{name: "Flip", n: 1, m: 2})
		carry(t, d, p, call{name: "Plan", fates: []api.Fate{{Step: 1, Kind: 1}}})
		carry(t, d, p, call{name: "Append", a: "a", b: "x"})
		carry(t, d, p, call{name: "Append", a: "a", b: "x"})
		carry(t, d, p, call{name: "On"})
		wantDisk(t, d, p)
	}
}

// steps are all kinds of steps, those that are refused too, on a disk with the files a and b.
func steps() []call {
	return []call{
		{name: "Create", a: "c"}, {name: "Create", a: "a"}, {name: "Create", a: "C"},
		{name: "Append", a: "a", b: "uvw"}, {name: "Append", a: "b", b: ""}, {name: "Append", a: "c", b: "u"}, {name: "Append", a: "a", b: "more than the room"},
		{name: "Sync", a: "b"}, {name: "Sync", a: "c"},
		{name: "Rename", a: "b", b: "a"}, {name: "Rename", a: "b", b: "c"}, {name: "Rename", a: "b", b: "b"}, {name: "Rename", a: "c", b: "a"}, {name: "Rename", a: "a", b: ""}, {name: "Rename", a: "c", b: ""}, {name: "Rename", a: "c", b: "c"},
		{name: "Remove", a: "a"}, {name: "Remove", a: "c"},
		{name: "SyncDir"},
	}
}

// ahead is what is done ahead of such a step: two steps lie open.
func ahead() []call {
	return []call{{name: "Create", a: "a"}, {name: "Append", a: "a", b: "xyz"}, {name: "Sync", a: "a"}, {name: "SyncDir"}, {name: "Create", a: "b"}, {name: "Append", a: "b", b: "w"}}
}

// P14.1, P14.3: every kind of step under every fate; what was refused, or what the power went ahead of, has changed nothing.
func TestFates(t *testing.T) {
	for _, c := range steps() {
		for kind := -1; kind <= 6; kind++ {
			for _, n := range []int{math.MinInt, -1, 0, 1, 2, 3, 4, 100, math.MaxInt} {
				for _, at := range []int{6, 7, 8} {
					d, p := made(t, 10, ahead()...)
					files, safe, loose, used := d.Files(), d.Safe(), d.Loose(), d.Used()
					carry(t, d, p, call{name: "Plan", fates: []api.Fate{{Step: at, Kind: kind, N: n}}})
					carry(t, d, p, c)
					wantDisk(t, d, p)
					unchanged := sameFiles(d.Files(), files) && sameFiles(d.Safe(), safe) && d.Loose() == loose && d.Used() == used
					if at == 7 && (kind == 1 || kind == 2 && c.name != "Append" || kind == 3) && !unchanged {
						t.Errorf("%+v under fate %d has changed something", c, kind)
					}
					if d.Steps() != 7 {
						t.Errorf("%d steps are counted", d.Steps())
					}
					wantReads(t, d, p, "a", "b", "c")
					carry(t, d, p, c)
					wantDisk(t, d, p)
					carry(t, d, p, call{name: "On", keeps: []int{1, 1, 1}})
					wantDisk(t, d, p)
				}
			}
		}
	}
}

// P14.1: the errors of fates, as the chapter names them.
func TestFateErrors(t *testing.T) {
	for _, x := range []struct {
		kind int
		want api.Errno
		on   bool
	}{{1, api.ErrDisk, true}, {2, api.ErrFull, true}, {3, api.ErrPower, false}, {4, api.ErrPower, false}} {
		for _, c := range steps() {
			d, p := made(t, 10, ahead()...)
			d.Plan(api.Fate{Step: 7, Kind: x.kind})
			var e api.Errno
			switch c.name {
			case "Create":
				e = d.Create(c.a)
			case "Append":
				e = d.Append(c.a, []byte(c.b))
			case "Sync":
				e = d.Sync(c.a)
			case "Rename":
				e = d.Rename(c.a, c.b)
			case "Remove":
				e = d.Remove(c.a)
			case "SyncDir":
				e = d.SyncDir()
			}
			if e != x.want || d.Power() != x.on || d.Steps() != 7 {
				t.Errorf("%+v under fate %d = %d, power %t, %d steps", c, x.kind, e, d.Power(), d.Steps())
			}
			if x.kind != 4 && len(d.Files()) != len(p.dir()) {
				t.Errorf("%+v under fate %d has changed the directory", c, x.kind)
			}
		}
	}
}

// P14.1: no room: of an append its first bytes are written, as many as the fate and the room allow.
func TestFullFate(t *testing.T) {
	for room := range 9 {
		for size := range 8 {
			for n := -1; n <= 9; n++ {
				d, p := made(t, room, call{name: "Create", a: "a"}, call{name: "Append", a: "a", b: "xyz"}, call{name: "Create", a: "b"}, call{name: "Append", a: "b", b: "w"}, call{name: "Sync", a: "b"})
				carry(t, d, p, call{name: "Plan", fates: []api.Fate{{Step: 6, Kind: 2, N: n}}})
				carry(t, d, p, call{name: "Append", a: "b", b: "1234567"[:size]})
				wantDisk(t, d, p)
				if d.Used() > room {
					t.Errorf("%d bytes in a room of %d", d.Used(), room)
				}
				// Not safe, as all that is appended.
				carry(t, d, p, call{name: "On", keeps: []int{9, 9, 2}})
				wantDisk(t, d, p)
			}
		}
	}
	d, _ := made(t, 10, call{name: "Create", a: "a"})
	d.Plan(api.Fate{Step: 2, Kind: api.FFull, N: 2})
	wantErrs(t, "Append", d.Append("a", []byte("xyz")), api.ErrFull)
	wantErrs(t, "Append", d.Append("a", []byte("uv")), api.OK)
	wantHas(t, "Files", d.Files(), "a", "xyuv")
}

// P14.1: the first fate with a step's number counts, be its kind none; a plan takes the place of the one ahead.
func TestPlan(t *testing.T) {
	for _, fates := range [][]api.Fate{
		{{Step: 2, Kind: 1}, {Step: 2, Kind: 2}},
		{{Step: 2, Kind: 2, N: 1}, {Step: 2, Kind: 2, N: 2}, {Step: 2, Kind: 1}},
		{{Step: 2, Kind: 0}, {Step: 2, Kind: 1}},
		{{Step: 2, Kind: 5}, {Step: 2, Kind: 3}},
		{{Step: 2, Kind: -1}, {Step: 1, Kind: 1}, {Step: 1, Kind: 3}},
		{{Step: 3, Kind: 1}, {Step: 2, Kind: 2, N: 1}, {Step: 1, Kind: 1}},
		{{Step: 0, Kind: 3}, {Step: -1, Kind: 3}, {Step: math.MinInt, Kind: 3}, {Step: math.MaxInt, Kind: 3}},
		{{Step: 2, Kind: 3}, {Step: 3, Kind: 3}, {Step: 4, Kind: 1}},
		{{Step: 2, Kind: math.MaxInt}, {Step: 3, Kind: math.MinInt}, {Step: 4, Kind: 4}, {Step: 5, Kind: 4}},
		{{}},
		{},
	} {
		d, p := disk.New(10), newPlain(10)
		carry(t, d, p, call{name: "Plan", fates: fates})
		for range 4 {
			carry(t, d, p, call{name: "Create", a: "a"})
			carry(t, d, p, call{name: "Append", a: "a", b: "xy"})
			wantDisk(t, d, p)
			// The plan outlasts the power.
			carry(t, d, p, call{name: "On", keeps: []int{1, 1}})
			wantDisk(t, d, p)
		}
	}
	d, p := made(t, 10, call{name: "Plan", fates: []api.Fate{{Step: 1, Kind: 1}, {Step: 2, Kind: 1}, {Step: 3, Kind: 1}}}, call{name: "SyncDir"}, call{name: "Plan", fates: []api.Fate{{Step: 3, Kind: 2}, {Step: 1, Kind: 3}}})
	for range 4 {
		carry(t, d, p, call{name: "SyncDir"})
	}
	carry(t, d, p, call{name: "Plan", fates: []api.Fate{{Step: 6, Kind: 3}}})
	carry(t, d, p, call{name: "Plan"})
	carry(t, d, p, call{name: "SyncDir"})
	wantDisk(t, d, p)
}

// P14.1: without power no step is counted, and nothing is read; a byte is turned all the same.
func TestWithoutPower(t *testing.T) {
	for _, c := range steps() {
		d, p := made(t, 10, ahead()...)
		carry(t, d, p, call{name: "Off"})
		carry(t, d, p, call{name: "Plan", fates: []api.Fate{{Step: 7, Kind: 1}}})
		wantDisk(t, d, p)
		wantReads(t, d, p, "", "a", "b", "c")
		carry(t, d, p, c)
		carry(t, d, p, call{name: "Off"})
		wantDisk(t, d, p)
		carry(t, d, p, call{name: "Flip", n: 0, m: 2})
		carry(t, d, p, call{name: "Flip", n: 1, m: 0})
		wantDisk(t, d, p)
		carry(t, d, p, call{name: "On", keeps: []int{9, 9, 9}})
		wantDisk(t, d, p)
		wantReads(t, d, p, "a", "b", "c")
		carry(t, d, p, c)
		carry(t, d, p, c)
		wantDisk(t, d, p)
	}
}

// P14.1, P1: the errors of steps and reads, and their order.
func TestErrors(t *testing.T) {
	d := begun(t)
	d.Create("b")
	for _, x := range []struct {
		what      string
		got, want api.Errno
	}{
		{"Create of no name", d.Create(""), api.ErrName}, {"Create of one that is there", d.Create("a"), api.ErrExist},
		{"Append to none", d.Append("c", nil), api.ErrNone}, {"Append of too much to none", d.Append("c", make([]byte, 11)), api.ErrNone}, {"Append to no name", d.Append("", nil), api.ErrNone}, {"Append of too much", d.Append("a", make([]byte, 8)), api.ErrFull}, {"Append of as much as there is room for", d.Append("b", make([]byte, 7)), api.OK},
		{"Sync of none", d.Sync("c"), api.ErrNone}, {"Sync of no name", d.Sync(""), api.ErrNone},
		{"Rename of none", d.Rename("c", "d"), api.ErrNone}, {"Rename of none to no name", d.Rename("c", ""), api.ErrNone}, {"Rename of no name to itself", d.Rename("", ""), api.ErrNone}, {"Rename to no name", d.Rename("a", "A"), api.ErrName}, {"Rename of none to itself", d.Rename("c", "c"), api.ErrNone},
		{"Remove of none", d.Remove("c"), api.ErrNone}, {"Remove of no name", d.Remove("A"), api.ErrNone},
	} {
		wantErrs(t, x.what, x.got, x.want)
	}
	for _, x := range []struct {
		name  string
		at, n int
		want  api.Errno
	}{
		{"c", -1, -1, api.ErrNone}, {"", 0, 0, api.ErrNone}, {"a", -1, 0, api.ErrArg}, {"a", 0, -1, api.ErrArg}, {"a", 0, 4, api.ErrArg}, {"a", 1, 3, api.ErrArg}, {"a", 3, 1, api.ErrArg}, {"a", 4, 1, api.ErrArg},
		{"a", 0, 3, api.OK}, {"a", 3, 0, api.OK}, {"a", 2, 1, api.OK}, {"a", 0, 0, api.OK},
	} {
		b, e := d.Read(x.name, x.at, x.n)
		if e != x.want || e == api.OK && string(b) != "xyz"[x.at:x.at+x.n] || e != api.OK && b != nil {
			t.Errorf("Read(%q, %d, %d) = %q, %d; want %d", x.name, x.at, x.n, b, e, x.want)
		}
	}
	d.Off()
	for _, name := range []string{"a", "c", ""} {
		for _, at := range []int{-1, 0, 9} {
			if b, e := d.Read(name, at, at); b != nil || e != api.ErrPower {
				t.Errorf("Read without power = %q, %d", b, e)
			}
		}
		if n, e := d.Size(name); n != 0 || e != api.ErrPower {
			t.Errorf("Size without power = %d, %d", n, e)
		}
	}
	if names, e := d.List(); names != nil || e != api.ErrPower {
		t.Errorf("List without power = %q, %d", names, e)
	}
}

var farInts = []int{math.MinInt, math.MinInt + 1, -2, -1, 0, 1, 2, 3, 4, math.MaxInt - 2, math.MaxInt - 1, math.MaxInt}

// P1: numbers as great as there are.
func TestFarNumbers(t *testing.T) {
	for _, x := range farInts {
		for _, y := range farInts {
			d, p := made(t, 10, ahead()...)
			wantRead(t, d, p, "a", x, y)
			carry(t, d, p, call{name: "Flip", n: x, m: y})
			wantDisk(t, d, p)
			carry(t, d, p, call{name: "Append", a: "a", b: "uv"})
			carry(t, d, p, call{name: "On", keeps: []int{x, y, x, y, x}})
			wantDisk(t, d, p)
		}
	}
}

// P14.1: bits of safe bytes are turned, of files in the order of their names, whoever holds them.
func TestFlip(t *testing.T) {
	calls := []call{
		{name: "Create", a: "m"}, {name: "Append", a: "m", b: "12"}, {name: "Sync", a: "m"}, {name: "SyncDir"}, {name: "Append", a: "m", b: "3"},
		{name: "Create", a: "b"}, {name: "Append", a: "b", b: "45"}, {name: "Sync", a: "b"}, {name: "Append", a: "b", b: "6"}, {name: "Create", a: "z"}, {name: "Append", a: "z", b: "7"},
	}
	for i := -2; i <= 4; i++ {
		for at := -2; at <= 4; at++ {
			for _, more := range [][]call{nil, {{name: "Rename", a: "b", b: "m"}}, {{name: "Remove", a: "m"}}, {{name: "Rename", a: "m", b: "a"}}} {
				d, p := made(t, 10, slices.Concat(calls, more)...)
				carry(t, d, p, call{name: "Flip", n: i, m: at})
				wantDisk(t, d, p)
				for _, keep := range []int{0, 1, 2, 3} {
					carry(t, d, p, call{name: "On", keeps: []int{keep, 1, 1, 1}})
					wantDisk(t, d, p)
				}
			}
		}
	}
	for mask := range 256 {
		d := begun(t)
		wantErrs(t, "Flip", d.Flip(0, 1, byte(mask)), api.OK)
		wantHas(t, "Flip", d.Files(), "a", string([]byte{'x', 'y' ^ byte(mask), 'z'}))
		wantHas(t, "Flip, Safe", d.Safe(), "a", string([]byte{'x', 'y' ^ byte(mask), 'z'}))
		if d.Steps() != 4 {
			t.Errorf("Flip is counted")
		}
		wantErrs(t, "Flip", d.Flip(0, 1, byte(mask)), api.OK)
		wantHas(t, "Flip twice", d.Files(), "a", "xyz")
	}
}

// P14.1: changes of the directory are kept as they were done, whatever names they give again.
func TestKeptChanges(t *testing.T) {
	for _, calls := range [][]call{
		// A name given twice, to unlike files.
		{{name: "Create", a: "a"}, {name: "Append", a: "a", b: "1"}, {name: "Sync", a: "a"}, {name: "Remove", a: "a"}, {name: "Create", a: "a"}, {name: "Append", a: "a", b: "2"}, {name: "Sync", a: "a"}},
		// Two files that change their names.
		{{name: "Create", a: "a"}, {name: "Append", a: "a", b: "1"}, {name: "Create", a: "b"}, {name: "Append", a: "b", b: "2"}, {name: "SyncDir"}, {name: "Rename", a: "a", b: "c"}, {name: "Rename", a: "b", b: "a"}, {name: "Rename", a: "c", b: "b"}, {name: "Append", a: "b", b: "3"}},
		// To and fro, and over another one.
		{{name: "Create", a: "a"}, {name: "Append", a: "a", b: "1"}, {name: "SyncDir"}, {name: "Rename", a: "a", b: "b"}, {name: "Rename", a: "b", b: "a"}, {name: "Create", a: "b"}, {name: "Append", a: "b", b: "22"}, {name: "Rename", a: "a", b: "b"}, {name: "Append", a: "b", b: "3"}},
		// What is synced behind its renaming, or ahead of being removed.
		{{name: "Create", a: "a"}, {name: "Append", a: "a", b: "1"}, {name: "SyncDir"}, {name: "Rename", a: "a", b: "b"}, {name: "Append", a: "b", b: "2"}, {name: "Sync", a: "b"}, {name: "Append", a: "b", b: "3"}, {name: "Remove", a: "b"}},
		// Renamed to itself, which is no change.
		{{name: "Create", a: "a"}, {name: "Rename", a: "a", b: "a"}, {name: "Create", a: "b"}, {name: "Rename", a: "b", b: "b"}, {name: "Remove", a: "a"}},
	} {
		for n := range len(calls) + 1 {
			for keep := -1; keep <= len(calls)+1; keep++ {
				for bits := range 27 {
					d, p := made(t, 10, calls[:n]...)
					keeps := []int{keep, bits % 3, bits / 3 % 3, bits / 9}
					carry(t, d, p, call{name: "On", keeps: keeps})
					wantDisk(t, d, p)
					carry(t, d, p, call{name: "Append", a: "a", b: "x"})
					carry(t, d, p, call{name: "Sync", a: "b"})
					carry(t, d, p, call{name: "Rename", a: "b", b: "a"})
					wantDisk(t, d, p)
				}
			}
		}
	}
}

// P14.1: any number of numbers; those that aren't there count as 0.
func TestNumbersOfOn(t *testing.T) {
	for n := range 7 {
		for _, keep := range []int{-1, 0, 1, 2, 9} {
			d, p := made(t, 20, call{name: "Create", a: "b"}, call{name: "Append", a: "b", b: "12"}, call{name: "Create", a: "c"}, call{name: "Append", a: "c", b: "345"}, call{name: "Create", a: "a"}, call{name: "Append", a: "a", b: "6"}, call{name: "Sync", a: "c"}, call{name: "Append", a: "c", b: "789"})
			keeps := slices.Repeat([]int{keep}, n)
			if n > 0 {
				keeps[0] = 3
			}
			carry(t, d, p, call{name: "On", keeps: keeps})
			wantDisk(t, d, p)
			// Kept is safe, the directory too.
			carry(t, d, p, call{name: "On"})
			wantDisk(t, d, p)
			wantReads(t, d, p, "a", "b", "c")
		}
	}
}

// P14.1: all calls one behind the other, four deep.
func TestAllOrders(t *testing.T) {
	calls := []call{
		{name: "Create", a: "a"}, {name: "Create", a: "b"}, {name: "Append", a: "a", b: "x"}, {name: "Append", a: "b", b: "yz"}, {name: "Sync", a: "a"}, {name: "Sync", a: "b"},
		{name: "Rename", a: "a", b: "b"}, {name: "Rename", a: "b", b: "a"}, {name: "Remove", a: "a"}, {name: "SyncDir"}, {name: "Off"}, {name: "On"}, {name: "On", keeps: []int{1, 1, 1}}, {name: "On", keeps: []int{9, 0, 9}},
		{name: "Flip", n: 0, m: 0},
	}
	n := len(calls)
	for _, first := range [][]call{nil, {{name: "Create", a: "a"}, {name: "Append", a: "a", b: "1"}, {name: "Sync", a: "a"}, {name: "SyncDir"}, {name: "Append", a: "a", b: "2"}}} {
		for k := range n * n * n * n {
			d, p := disk.New(4), newPlain(4)
			for _, c := range first {
				carry(t, d, p, c)
			}
			for range 4 {
				carry(t, d, p, calls[k%n])
				k /= n
			}
			wantDisk(t, d, p)
		}
	}
}

// someCall is any call, on few names.
func someCall(rnd *rand.Rand, step int) call {
	names := []string{"a", "b", "c", "a.b", "-", "A", ""}
	name := func() string { return names[min(rnd.IntN(30), rnd.IntN(len(names)))] }
	switch rnd.IntN(32) {
	case 0, 1, 2, 3:
		return call{name: "Create", a: name()}
	case 4, 5, 6, 7, 8, 9:
		return call{name: "Append", a: name(), b: "abcdefghij"[:rnd.IntN(11)]}
	case 10, 11, 12, 13:
		return call{name: "Sync", a: name()}
	case 14, 15, 16, 17:
		return call{name: "Rename", a: name(), b: name()}
	case 18, 19:
		return call{name: "Remove", a: name()}
	case 20, 21, 22:
		return call{name: "SyncDir"}
	case 23:
		return call{name: "Off"}
	case 24, 25, 26, 27:
		keeps := make([]int, rnd.IntN(6))
		for i := range keeps {
			keeps[i] = rnd.IntN(10) - 2
		}
		return call{name: "On", keeps: keeps}
	case 28, 29:
		return call{name: "Flip", n: rnd.IntN(6) - 1, m: rnd.IntN(10) - 1}
	}
	fates := make([]api.Fate, rnd.IntN(4))
	for i := range fates {
		fates[i] = api.Fate{Step: step + rnd.IntN(8), Kind: rnd.IntN(7) - 1, N: rnd.IntN(8) - 1}
	}
	return call{name: "Plan", fates: fates}
}

// P14.1: calls and fates in any order, over several disks.
func TestAnyOrder(t *testing.T) {
	rnd := rand.New(rand.NewPCG(14, 1))
	for range 150 {
		var ds []*disk.Disk
		var ps []*plain
		for range 3 {
			room := []int{0, 10, 40, 1000}[rnd.IntN(4)]
			ds = append(ds, disk.New(room))
			ps = append(ps, newPlain(room))
		}
		for range 150 {
			i := rnd.IntN(3)
			carry(t, ds[i], ps[i], someCall(rnd, ps[i].steps))
			for k := range ds {
				wantDisk(t, ds[k], ps[k])
			}
			wantRead(t, ds[i], ps[i], "a", rnd.IntN(10), rnd.IntN(10))
			if t.Failed() {
				return
			}
		}
		for k := range ds {
			wantReads(t, ds[k], ps[k], "a", "b", "c", "a.b", "-", "A", "")
		}
	}
}

// P14.2: what was synced of a file whose name was made safe since is there behind every crash.
func TestSyncedStays(t *testing.T) {
	rnd := rand.New(rand.NewPCG(14, 2))
	for range 2000 {
		d := disk.New(1000)
		d.Create("keep")
		synced, whole, named := "", "", false
		if rnd.IntN(2) == 0 {
			d.Rename("keep", "kept")
			d.Rename("kept", "keep")
		}
		d.Plan(api.Fate{Step: 1 + rnd.IntN(25), Kind: 3 + rnd.IntN(2)})
		for range 20 {
			switch rnd.IntN(6) {
			case 0, 1:
				b := strconv.Itoa(rnd.IntN(100))
				if d.Append("keep", []byte(b)) == api.OK {
					whole += b
				}
			case 2:
				if d.Sync("keep") == api.OK {
					synced = whole
				}
			case 3:
				if d.SyncDir() == api.OK {
					named = true
				}
			case 4:
				d.Create("x" + strconv.Itoa(rnd.IntN(3)))
			case 5:
				d.Rename("x0", "x1")
			}
		}
		d.On(rnd.IntN(5)-1, rnd.IntN(9)-1, rnd.IntN(9)-1)
		n, e := d.Size("keep")
		b, _ := d.Read("keep", 0, n)
		if named && (e != api.OK || !strings.HasPrefix(string(b), synced)) {
			t.Errorf("%q was synced; behind the crash %q, %d", synced, b, e)
		}
	}
}

// P14.4: written whole, synced and renamed over another one: the new one or the old one, wherever the power goes and whatever is kept.
func TestNewOrOld(t *testing.T) {
	for _, fill := range []int{0, 1} {
		for step := 5; step <= 11; step++ {
			for _, kind := range []int{1, 2, 3, 4} {
				for keep := -1; keep <= 4; keep++ {
					for bytes := range 5 {
						d := begun(t)
						d.Plan(api.Fate{Step: step, Kind: kind, N: fill})
						ok := d.Create("b") == api.OK && d.Append("b", []byte("new")) == api.OK && d.Sync("b") == api.OK && d.Rename("b", "a") == api.OK
						done := ok && d.SyncDir() == api.OK
						d.On(keep, bytes, bytes)
						b, e := d.Read("a", 0, 3)
						if e != api.OK || string(b) != "new" && string(b) != "xyz" || done && string(b) != "new" {
							t.Errorf("fate %d at step %d, On(%d, %d): %q, %d", kind, step, keep, bytes, b, e)
						}
						if n, _ := d.Size("a"); n != 3 {
							t.Errorf("fate %d at step %d, On(%d, %d): %d bytes", kind, step, keep, bytes, n)
						}
					}
				}
			}
		}
	}
}

const mark = 0xa5

// roomy is a text with room behind it that is filled.
func roomy(b string) []byte {
	all := append([]byte(b), bytes.Repeat([]byte{mark}, 9)...)
	return all[:len(b)]
}

func isMarked(b []byte) bool {
	return bytes.Equal(b, bytes.Repeat([]byte{mark}, len(b)))
}

// P14.5: neither what is handed in is changed, nor what lies behind its length.
func TestArgumentsStay(t *testing.T) {
	given := roomy("xyz")
	files := []api.File{{Name: "b", Data: given}, {Name: "a", Data: roomy("")}, {Name: "never", Data: roomy("n")}}
	fates := []api.Fate{{Step: 9, Kind: 1}, {Step: 3, Kind: 2, N: 2}, {Step: 99, Kind: 99}}
	keeps := []int{9, -1, 1, 7}
	d, e := disk.Load(100, files[:2]...)
	wantErrs(t, "Load", e, api.OK)
	d.Plan(fates[:2]...)
	for range 4 {
		d.Append("b", given)
		d.Sync("b")
		d.Flip(1, 1, 0xff)
		d.Flip(1, 4, 0xff)
	}
	d.On(keeps[:3]...)
	if string(given) != "xyz" || !isMarked(given[3:12]) || !isMarked(files[1].Data[:9]) {
		t.Errorf("bytes changed: %q", given[:12])
	}
	if len(files) != 3 || files[0].Name != "b" || files[1].Name != "a" || files[2].Name != "never" || string(files[2].Data) != "n" {
		t.Errorf("files changed: %q", files)
	}
	if !slices.Equal(fates, []api.Fate{{Step: 9, Kind: 1}, {Step: 3, Kind: 2, N: 2}, {Step: 99, Kind: 99}}) || !slices.Equal(keeps, []int{9, -1, 1, 7}) {
		t.Errorf("numbers changed: %v, %v", fates, keeps)
	}
}

// fill writes over a list and its spare room.
func fill(b []byte, c byte) {
	b = b[:cap(b)]
	for i := range b {
		b[i] = c
	}
}

// P14.5: nothing that is handed in is kept.
func TestNothingIsKept(t *testing.T) {
	files := []api.File{{Name: "b", Data: []byte("xyz")}, {Name: "a", Data: []byte("")}}
	d, _ := disk.Load(100, files...)
	p, _ := plainLoad(100, api.File{Name: "b", Data: []byte("xyz")}, api.File{Name: "a"})
	fill(files[0].Data, mark)
	files[0].Name, files[1].Name = "c", "d"
	wantDisk(t, d, p)

	for _, name := range []string{"a", "b"} {
		b := append(make([]byte, 0, 20), "uvw"...)
		d.Append(name, b)
		p.step(call{name: "Append", a: name, b: "uvw"})
		fill(b, mark)
		wantDisk(t, d, p)
		carry(t, d, p, call{name: "Append", a: name, b: "more"})
		wantDisk(t, d, p)
	}

	// A fate's bytes, too.
	b := []byte("0123456789")
	fates := []api.Fate{{Step: 5, Kind: 2, N: 4}, {Step: 6, Kind: 1}}
	d.Plan(fates...)
	p.plan = slices.Clone(fates)
	fates[0], fates[1] = api.Fate{Step: 5, Kind: 3}, api.Fate{Step: 5, Kind: 3}
	d.Append("a", b)
	p.step(call{name: "Append", a: "a", b: "0123456789"})
	fill(b, mark)
	wantDisk(t, d, p)
	carry(t, d, p, call{name: "SyncDir"})
	carry(t, d, p, call{name: "SyncDir"})

	keeps := []int{0, 2, 3}
	d.On(keeps...)
	p.turnOn([]int{0, 2, 3})
	keeps[0], keeps[1] = 9, 9
	wantDisk(t, d, p)
}

// P14.5: the names neither, though it takes some doing to write over a text.
func TestNamesAreNotKept(t *testing.T) {
	var given [][]byte
	text := func(s string) string {
		b := []byte(s)
		given = append(given, b)
		return unsafe.String(unsafe.SliceData(b), len(b))
	}
	d, _ := disk.Load(100, api.File{Name: text("old"), Data: []byte("1")}, api.File{Name: text("gone"), Data: []byte("2")})
	p, _ := plainLoad(100, api.File{Name: "old", Data: []byte("1")}, api.File{Name: "gone", Data: []byte("2")})
	d.Create(text("one"))
	d.Rename(text("one"), text("two"))
	d.Append(text("two"), []byte("x"))
	d.Sync(text("two"))
	d.Rename(text("old"), text("new"))
	d.Remove(text("gone"))
	for _, c := range []call{{name: "Create", a: "one"}, {name: "Rename", a: "one", b: "two"}, {name: "Append", a: "two", b: "x"}, {name: "Sync", a: "two"}, {name: "Rename", a: "old", b: "new"}, {name: "Remove", a: "gone"}} {
		p.step(c)
	}
	for _, b := range given {
		fill(b, 'z')
	}
	wantDisk(t, d, p)
	wantReads(t, d, p, "old", "gone", "one", "two", "new")
	carry(t, d, p, call{name: "On", keeps: []int{4}})
	wantDisk(t, d, p)
	wantReads(t, d, p, "old", "gone", "one", "two", "new")
}

// P14.5: nothing that is answered is seen again, and no two lists of one answer share.
func TestAnswersAreNew(t *testing.T) {
	d, p := made(t, 100, call{name: "Create", a: "a"}, call{name: "Append", a: "a", b: "xyz"}, call{name: "Sync", a: "a"}, call{name: "SyncDir"}, call{name: "Append", a: "a", b: "uv"}, call{name: "Create", a: "b"}, call{name: "Append", a: "b", b: "w"})
	for range 3 {
		for _, files := range [][]api.File{d.Files(), d.Safe()} {
			all := files[:cap(files)]
			for i := range all {
				fill(all[i].Data, byte(i))
			}
			for i := range all {
				if !bytes.Equal(all[i].Data, bytes.Repeat([]byte{byte(i)}, len(all[i].Data))) {
					t.Errorf("two lists of one answer share")
				}
				all[i] = api.File{Name: "z", Data: []byte("z")}
			}
			wantDisk(t, d, p)
		}
		b, e := d.Read("a", 1, 2)
		wantErrs(t, "Read", e, api.OK)
		fill(b, mark)
		wantDisk(t, d, p)
		names, e := d.List()
		wantErrs(t, "List", e, api.OK)
		names = names[:cap(names)]
		for i := range names {
			names[i] = "z"
		}
		wantDisk(t, d, p)
		wantReads(t, d, p, "a", "b", "z")
		carry(t, d, p, call{name: "Append", a: "a", b: "more"})
		if !isMarked(b[:cap(b)]) {
			t.Errorf("what was read changes: %q", b)
		}
	}
}

// P14.5: two disks share nothing, though they were loaded with the same files.
func TestDisksShareNothing(t *testing.T) {
	first, _ := made(t, 100, ahead()...)
	files := first.Files()
	same := append(slices.Clone(files), api.File{Name: "same", Data: files[0].Data})
	var ds []*disk.Disk
	var ps []*plain
	for range 3 {
		d, e := disk.Load(100, same...)
		wantErrs(t, "Load", e, api.OK)
		p, _ := plainLoad(100, same...)
		ds, ps = append(ds, d), append(ps, p)
	}
	for i := range ds {
		for _, c := range []call{{name: "Flip", n: 0, m: i}, {name: "Append", a: "a", b: "more"[i:]}, {name: "Sync", a: "a"}, {name: "Rename", a: "a", b: "same"}, {name: "Remove", a: "b"}, {name: "Create", a: "c"}, {name: "Plan", fates: []api.Fate{{Step: 6 + i, Kind: 1}}}} {
			carry(t, ds[i], ps[i], c)
			for k := range ds {
				wantDisk(t, ds[k], ps[k])
			}
		}
	}
	for i := range ds {
		carry(t, ds[i], ps[i], call{name: "SyncDir"})
		carry(t, ds[i], ps[i], call{name: "On"})
		carry(t, ds[i], ps[i], call{name: "SyncDir"})
		wantDisk(t, ds[i], ps[i])
	}
	wantHas(t, "first", first.Files(), "a", "xyz", "b", "w")
}

// P2: asked again, the same; asking changes nothing, nor does the order in which names were given.
func TestAskedAgain(t *testing.T) {
	rnd := rand.New(rand.NewPCG(14, 3))
	for range 20 {
		names := strings.Split("k j i h g f e d c b a 0 1 2 3 _ - .", " ")
		rnd.Shuffle(len(names), func(i, j int) { names[i], names[j] = names[j], names[i] })
		d, p := disk.New(100), newPlain(100)
		for _, name := range names {
			carry(t, d, p, call{name: "Create", a: name})
			carry(t, d, p, call{name: "Append", a: name, b: name})
			carry(t, d, p, call{name: "Sync", a: name})
		}
		for range 3 {
			wantDisk(t, d, p)
			wantReads(t, d, p, names[0], names[9])
		}
		carry(t, d, p, call{name: "On", keeps: []int{rnd.IntN(19)}})
		wantDisk(t, d, p)
	}
}
