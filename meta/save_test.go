package meta_test

import (
	"bytes"
	"fmt"
	"math"
	"math/rand/v2"
	"regexp"
	"slices"
	"strconv"
	"testing"

	"stoa/api"
	"stoa/disk"
	"stoa/meta"
)

// The plain calls make the steps that the chapter says, on a disk of their own.

// has tells whether a disk has a file, whatever its power.
func has(d *disk.Disk, name string) bool {
	return slices.ContainsFunc(d.Files(), func(f api.File) bool { return f.Name == name })
}

func plainSave(d *disk.Disk, m api.Meta) api.Errno {
	if e := plainErr(m); e != api.OK {
		return e
	}
	if has(d, "super.tmp") {
		if e := d.Remove("super.tmp"); e != api.OK {
			return e
		}
	}
	if e := d.Create("super.tmp"); e != api.OK {
		return e
	}
	if e := d.Append("super.tmp", written(m)); e != api.OK {
		return e
	}
	if e := d.Sync("super.tmp"); e != api.OK {
		return e
	}
	if e := d.Rename("super.tmp", "super"); e != api.OK {
		return e
	}
	return d.SyncDir()
}

func plainLoad(d *disk.Disk) (api.Meta, bool, api.Errno) {
	if !d.Power() {
		return api.Meta{}, false, api.ErrPower
	}
	for _, f := range d.Files() {
		if f.Name == "super" {
			m, e := plainDecode(f.Data)
			return m, e == api.OK, e
		}
	}
	return api.Meta{}, false, api.OK
}

var partName = regexp.MustCompile(`^set-(\d{6})\.(?:base|bloom|keys|live|undo|col-0\d|col-1[01]|redo-(\d{3}))$`)

// plainLeft: is the file one that a broken task has left?
func plainLeft(name string, m api.Meta) bool {
	parts := partName.FindStringSubmatch(name)
	if parts == nil || parts[1] == "000000" || parts[2] == "000" {
		return name == "super.tmp"
	}
	id, _ := strconv.Atoi(parts[1])
	for _, set := range m.Sets {
		if set.Id == id {
			number, e := strconv.Atoi(parts[2])
			return e == nil && number > set.Files
		}
	}
	return true
}

func plainSweep(d *disk.Disk, m api.Meta) (int, api.Errno) {
	if !d.Power() {
		return 0, api.ErrPower
	}
	n := 0
	for _, f := range d.Files() {
		if plainLeft(f.Name, m) {
			if e := d.Remove(f.Name); e != api.OK {
				return n, e
			}
			n++
		}
	}
	if n > 0 {
		return n, d.SyncDir()
	}
	return 0, api.OK
}

// A pair is two disks on which the same is done: by the calls, and plainly.
type pair struct {
	d, p *disk.Disk
}

func newPair(t *testing.T, room int, files ...api.File) pair {
	t.Helper()
	d, e := disk.Load(room, files...)
	p, _ := disk.Load(room, files...)
	if e != api.OK {
		t.Fatalf("Load of a disk = %d", e)
	}
	return pair{d, p}
}

// both does the same on both disks.
func (x pair) both(do func(d *disk.Disk)) {
	do(x.d)
	do(x.p)
}

func sameFiles(x, y []api.File) bool {
	return slices.EqualFunc(x, y, func(a, b api.File) bool { return a.Name == b.Name && bytes.Equal(a.Data, b.Data) })
}

// same holds the disks against each other.
func (x pair) same(t *testing.T) {
	t.Helper()
	d, p := x.d, x.p
	if d.Power() != p.Power() || d.Steps() != p.Steps() || d.Loose() != p.Loose() {
		t.Fatalf("power %t, %d steps, %d loose; want %t, %d, %d", d.Power(), d.Steps(), d.Loose(), p.Power(), p.Steps(), p.Loose())
	}
	if !sameFiles(d.Files(), p.Files()) || !sameFiles(d.Safe(), p.Safe()) {
		t.Fatalf("files %q, safe %q; want %q, %q", d.Files(), d.Safe(), p.Files(), p.Safe())
	}
}

func (x pair) save(t *testing.T, m api.Meta) api.Errno {
	t.Helper()
	e, want := meta.Save(x.d, m), plainSave(x.p, m)
	if e != want {
		t.Fatalf("Save = %d; want %d", e, want)
	}
	x.same(t)
	return e
}

func (x pair) load(t *testing.T) (api.Meta, bool, api.Errno) {
	t.Helper()
	m, ok, e := meta.Load(x.d)
	want, there, wantErr := plainLoad(x.p)
	if ok != there || e != wantErr || !sameMeta(m, want) || !ok && !isZero(m) {
		t.Fatalf("Load = %v, %t, %d; want %v, %t, %d", m, ok, e, want, there, wantErr)
	}
	x.same(t)
	return m, ok, e
}

func (x pair) sweep(t *testing.T, m api.Meta) (int, api.Errno) {
	t.Helper()
	n, e := meta.Sweep(x.d, m)
	want, wantErr := plainSweep(x.p, m)
	if n != want || e != wantErr {
		t.Fatalf("Sweep = %d, %d; want %d, %d", n, e, want, wantErr)
	}
	x.same(t)
	return n, e
}

// plan lets something happen at a step that is counted from now on.
func (x pair) plan(step, kind, n int) {
	x.both(func(d *disk.Disk) { d.Plan(api.Fate{Step: d.Steps() + step, Kind: kind, N: n}) })
}

func (x pair) crash(keeps ...int) {
	x.both(func(d *disk.Disk) { d.On(keeps...) })
}

func file(name, data string) api.File {
	return api.File{Name: name, Data: []byte(data)}
}

// begun are files with which a disk can begin.
func begun() [][]api.File {
	super, temp := file("super", string(written(gen(1)))), file("super.tmp", "half")
	return [][]api.File{nil, {super}, {temp}, {super, temp}, {super, file("set-000001.base", "x"), file("super.tmp2", "y"), temp}}
}

// P23.2: the steps of Save, with each fate at each of them.
func TestSave(t *testing.T) {
	told := map[api.Errno]int{}
	for _, files := range begun() {
		for step := range 9 {
			for kind := range 6 {
				for _, n := range []int{-1, 0, 1, 20, 1000} {
					x := newPair(t, 1000, files...)
					x.plan(step, kind, n)
					e := x.save(t, small())
					told[e]++
					if e == api.OK && x.d.Steps() != 5 && x.d.Steps() != 6 {
						t.Fatalf("%d steps", x.d.Steps())
					}
					x.load(t)
					x.save(t, gen(3))
					x.crash(1, 1, 1, 1)
					x.load(t)
					x.save(t, gen(4))
					if m, ok, _ := x.load(t); !ok || m.Gen != 4 {
						t.Fatalf("Load = %v, %t", m, ok)
					}
				}
			}
		}
	}
	for _, e := range []api.Errno{api.OK, api.ErrDisk, api.ErrFull, api.ErrPower} {
		if told[e] < 50 {
			t.Errorf("Save told %d %d times", e, told[e])
		}
	}
}

// P23.2: a meta that isn't right makes no step, whatever the disk.
func TestSaveOfWrong(t *testing.T) {
	x := newPair(t, 1000, begun()[3]...)
	for range 2 {
		for _, s := range schemas() {
			m := gen(0)
			m.Schema = s
			if e := x.save(t, m); e != api.ErrSchema && e != api.ErrArg {
				t.Errorf("Save = %d", e)
			}
		}
		x.both((*disk.Disk).Off)
	}
	if x.d.Steps() != 0 {
		t.Errorf("%d steps", x.d.Steps())
	}
	if e := x.save(t, small()); e != api.ErrPower || x.d.Steps() != 0 {
		t.Errorf("Save without power = %d, %d steps", e, x.d.Steps())
	}
}

// P23.2: a disk that refuses by itself.
func TestSaveWithoutRoom(t *testing.T) {
	size := len(written(small()))
	for room := range 2*size + 2 {
		x := newPair(t, room, file("super", ""))
		want := api.OK
		if room < size {
			want = api.ErrFull
		}
		if e := x.save(t, small()); e != want {
			t.Fatalf("Save with room for %d = %d", room, e)
		}
		if want == api.OK {
			want = api.ErrFull
		}
		if room >= 2*size {
			want = api.OK
		}
		if e := x.save(t, small()); e != want {
			t.Fatalf("another Save with room for %d = %d", room, e)
		}
		x.load(t)
	}
	var many []api.File
	for i := range 400 {
		many = append(many, file(fmt.Sprintf("f%d", i), ""))
	}
	x := newPair(t, 1000, many...)
	if e := x.save(t, small()); e != api.ErrFull {
		t.Errorf("Save with 400 files = %d", e)
	}
	many[0].Name = "super.tmp"
	x = newPair(t, 1000, many...)
	if e := x.save(t, small()); e != api.OK {
		t.Errorf("Save with super.tmp and 399 files = %d", e)
	}
}

// P23.2: what stands in the file "super".
func TestLoad(t *testing.T) {
	whole := string(written(small()))
	for _, s := range []string{"", "x", whole[:len(whole)-1], whole[1:], whole + "\x00", whole + whole, string(written(gen(0))), string(framed(1, plainBody(small()))), string(framed(2, nil))} {
		x := newPair(t, 1000, file("super", s), file("super.tmp", whole))
		if _, ok, e := x.load(t); ok || e != api.ErrCorrupt {
			t.Errorf("Load of %x = %t, %d", s, ok, e)
		}
	}
	for _, s := range []string{"", "x", whole} {
		x := newPair(t, 1000, file("super.tmp", s), file("superb", whole))
		if _, ok, e := x.load(t); ok || e != api.OK {
			t.Errorf("Load of super.tmp = %t, %d", ok, e)
		}
		x = newPair(t, 1000, file("super.tmp", s), file("super", whole))
		if _, ok, e := x.load(t); !ok || e != api.OK {
			t.Errorf("Load = %t, %d", ok, e)
		}
		x.both((*disk.Disk).Off)
		if _, ok, e := x.load(t); ok || e != api.ErrPower {
			t.Errorf("Load without power = %t, %d", ok, e)
		}
	}
	x := newPair(t, 1000)
	x.both((*disk.Disk).Off)
	if _, ok, e := x.load(t); ok || e != api.ErrPower {
		t.Errorf("Load of an empty disk without power = %t, %d", ok, e)
	}
}

// strewn are files of rowsets and others.
func strewn() []api.File {
	var all []api.File
	for _, name := range []string{
		"set-000003.base", "set-000003.redo-001", "set-000003.redo-002", "set-000003.redo-999", "set-000003.col-01", "set-000003.redo-000", "set-000003.redo-1",
		"set-000007.keys", "set-000007.redo-001", "set-000008.live", "set-000008.undo", "set-000008.redo-001", "set-000008.col-12", "set-000000.base", "set-999999.bloom", "set-3.base",
		"super", "super.tmp", "super.tmp.tmp", "wal-000001", "a", "z",
	} {
		all = append(all, file(name, "x"))
	}
	return all
}

// P23.2: what Sweep removes, and how many; removed once, nothing more is.
func TestSweep(t *testing.T) {
	for _, c := range []struct {
		sets []api.SetMeta
		n    int
	}{
		{nil, 12},
		{small().Sets, 8},
		{[]api.SetMeta{{Id: 3, Files: 0}, {Id: 7, Files: 1}, {Id: 8, Files: 1}}, 5},
		{[]api.SetMeta{{Id: 8, Files: 999}, {Id: 3, Files: 999}}, 4},
		{[]api.SetMeta{{Id: 999999, Files: -5}, {Id: 7, Files: math.MinInt}, {Id: 3, Files: 1000}, {Id: math.MaxInt}, {Id: 0}, {Id: -3}}, 5},
		{[]api.SetMeta{{Id: 3, Files: 998}, {Id: 7, Files: math.MaxInt}}, 6},
	} {
		x := newPair(t, 1000, strewn()...)
		m := api.Meta{Sets: c.sets}
		if n, e := x.sweep(t, m); n != c.n || e != api.OK || x.d.Steps() != c.n+1 || x.d.Loose() != 0 {
			t.Errorf("Sweep of %v = %d, %d, %d steps; want %d", c.sets, n, e, x.d.Steps(), c.n)
		}
		if n, e := x.sweep(t, m); n != 0 || e != api.OK || x.d.Steps() != c.n+1 {
			t.Errorf("another Sweep = %d, %d, %d steps", n, e, x.d.Steps())
		}
		for _, f := range x.d.Files() {
			if plainLeft(f.Name, m) {
				t.Errorf("%s is left", f.Name)
			}
		}
	}
}

// P23.2: each fate at each step of a Sweep.
func TestSweepRefused(t *testing.T) {
	for step := range 12 {
		for kind := range 6 {
			x := newPair(t, 1000, strewn()...)
			x.plan(step, kind, 1)
			n, e := x.sweep(t, small())
			if refused := step > 0 && step < 10 && kind > 0 && kind < 5; refused != (e != api.OK) || refused && n != step-1 {
				t.Errorf("Sweep with fate %d at %d = %d, %d", kind, step, n, e)
			}
			x.sweep(t, small())
			x.crash(step, 1, 1)
			x.sweep(t, small())
			if n, e := x.sweep(t, small()); n != 0 || e != api.OK {
				t.Errorf("the last Sweep = %d, %d", n, e)
			}
		}
	}
	x := newPair(t, 1000, strewn()...)
	x.both((*disk.Disk).Off)
	if n, e := x.sweep(t, small()); n != 0 || e != api.ErrPower || x.d.Steps() != 0 {
		t.Errorf("Sweep without power = %d, %d, %d steps", n, e, x.d.Steps())
	}
}

// P23.2: what a Sweep without anything to remove leaves unsafe stays so.
func TestSweepOfNothing(t *testing.T) {
	x := newPair(t, 1000)
	x.both(func(d *disk.Disk) { d.Create("a") })
	if n, e := x.sweep(t, small()); n != 0 || e != api.OK || x.d.Loose() != 1 || x.d.Steps() != 1 {
		t.Errorf("Sweep = %d, %d, %d loose, %d steps", n, e, x.d.Loose(), x.d.Steps())
	}
}

// P23.2: all names near those of parts.
func TestSweepOfNear(t *testing.T) {
	for _, near := range []string{"set-000003.redo-002", "set-000007.base", "set-000004.col-10", "super.tmp"} {
		names := map[string]int{}
		allBytes(near, func(name string) {
			if disk.New(0).Create(name) == api.OK {
				names[name] = 1
			}
		})
		var files []api.File
		for name := range names {
			files = append(files, file(name, ""))
			if len(files) == 300 {
				newPair(t, 0, files...).sweep(t, small())
				files = nil
			}
		}
		newPair(t, 0, files...).sweep(t, small())
	}
}

// A call is one of the package, or one of the disk.
type call struct {
	name string
	do   func(t *testing.T, x pair)
}

func calls() []call {
	plan := func(step, kind, n int) call {
		return call{fmt.Sprint("Plan ", step, kind), func(t *testing.T, x pair) { x.plan(step, kind, n) }}
	}
	crash := func(keeps ...int) call {
		return call{fmt.Sprint("Crash ", keeps), func(t *testing.T, x pair) { x.crash(keeps...) }}
	}
	return []call{
		{"Save 1", func(t *testing.T, x pair) { x.save(t, gen(1)) }},
		{"Save small", func(t *testing.T, x pair) { x.save(t, small()) }},
		{"Save wrong", func(t *testing.T, x pair) { x.save(t, gen(0)) }},
		{"Sweep small", func(t *testing.T, x pair) { x.sweep(t, small()) }},
		{"Sweep all", func(t *testing.T, x pair) { x.sweep(t, gen(1)) }},
		plan(1, api.FFail, 0), plan(2, api.FFull, 5), plan(4, api.FBehind, 0), plan(5, api.FBehind, 0), plan(5, api.FBefore, 0), plan(3, api.FFail, 0),
		{"Off", func(t *testing.T, x pair) { x.both((*disk.Disk).Off) }},
		crash(), crash(1, 7), crash(9, 99, 99, 99),
		{"Create", func(t *testing.T, x pair) {
			x.both(func(d *disk.Disk) {
				d.Create("set-000003.redo-002")
				d.Create("set-000009.live")
			})
		}},
		{"Flip", func(t *testing.T, x pair) { x.both(func(d *disk.Disk) { d.Flip(0, 9, 4) }) }},
	}
}

// P23.2: all orders of calls, four deep; behind each one Load, too.
func TestAllOrders(t *testing.T) {
	all := calls()
	for i := range len(all) * len(all) * len(all) * len(all) {
		x := newPair(t, 120)
		var names []string
		for range 4 {
			c := all[i%len(all)]
			names = append(names, c.name)
			c.do(t, x)
			x.load(t)
			i /= len(all)
		}
		if t.Failed() {
			t.Fatalf("behind %q", names)
		}
	}
}

// P23.2: longer orders of any calls.
func TestAnyOrder(t *testing.T) {
	rnd := rand.New(rand.NewPCG(23, 5))
	all := calls()
	for range 3000 {
		x := newPair(t, oneOf(rnd, 60, 120, 1000), begun()[rnd.IntN(5)]...)
		for range 20 {
			all[rnd.IntN(len(all))].do(t, x)
			x.load(t)
			switch rnd.IntN(6) {
			case 0:
				x.plan(1+rnd.IntN(6), 1+rnd.IntN(4), rnd.IntN(60))
			case 1:
				x.crash(rnd.IntN(6), rnd.IntN(60), rnd.IntN(60), rnd.IntN(60))
			}
		}
	}
}

// wantOld: Load tells the former meta or the new one, whole; the new one, if Save answered OK.
func wantOld(t *testing.T, d *disk.Disk, former api.Meta, there bool, next api.Meta, saved api.Errno) {
	t.Helper()
	m, ok, e := meta.Load(d)
	if e != api.OK {
		t.Fatalf("Load = %d", e)
	}
	if ok && sameMeta(m, next) {
		return
	}
	if saved == api.OK || ok != there || !sameMeta(m, former) {
		t.Fatalf("Load = %v, %t; Save was %d, the former one %v, %t", m, ok, saved, former, there)
	}
}

// P23.3, P5: a Save broken off at each step by each fate, and of what isn't safe each beginning kept.
func TestEveryCrash(t *testing.T) {
	size := len(written(small()))
	broken := func(files []api.File, step, kind, n int) (*disk.Disk, api.Errno) {
		d, _ := disk.Load(1000, files...)
		d.Plan(api.Fate{Step: step, Kind: kind, N: n})
		return d, meta.Save(d, small())
	}
	for _, files := range begun() {
		first, _ := disk.Load(1000, files...)
		former, there, _ := meta.Load(first)
		for step := range 8 {
			for kind := range 5 {
				for _, n := range []int{0, 1, size - 1, size} {
					d, e := broken(files, step, kind, n)
					if d.Power() {
						wantOld(t, d, former, there, small(), e)
					}
					for dirs := range d.Loose() + 1 {
						for _, keep := range []int{0, 1, 9, size / 2, size - 1, size} {
							d, e := broken(files, step, kind, n)
							d.On(dirs, keep, keep, keep, keep)
							wantOld(t, d, former, there, small(), e)
							d.On(dirs, keep, keep)
							wantOld(t, d, former, there, small(), e)
						}
					}
				}
			}
		}
	}
}

// P23.3, P5: Saves broken off one behind the other, with Sweeps between.
func TestManyCrashes(t *testing.T) {
	rnd := rand.New(rand.NewPCG(23, 6))
	for range 2000 {
		d := disk.New(500)
		for i := range 30 {
			former, there, _ := meta.Load(d)
			next := gen(i + 1)
			d.Plan(api.Fate{Step: d.Steps() + rnd.IntN(8), Kind: rnd.IntN(5), N: rnd.IntN(60)})
			e := meta.Save(d, next)
			if d.Power() {
				wantOld(t, d, former, there, next, e)
			}
			if rnd.IntN(4) == 0 && e == api.OK {
				meta.Sweep(d, next)
			}
			d.On(rnd.IntN(5), rnd.IntN(60), rnd.IntN(60))
			wantOld(t, d, former, there, next, e)
		}
	}
}

// P2: over two disks that are the same, the same is answered; two metas loaded share nothing.
func TestLoadIsNew(t *testing.T) {
	d := disk.New(1000)
	meta.Save(d, small())
	first, _, _ := meta.Load(d)
	second, _, _ := meta.Load(d)
	wipe(first)
	if again, ok, e := meta.Load(d); !sameMeta(again, small()) || !sameMeta(second, small()) || !ok || e != api.OK {
		t.Errorf("Load = %v, %t, %d; and %v", again, ok, e, second)
	}
}
