package tablet_test

import (
	"math/rand/v2"
	"slices"
	"testing"

	"stoa/api"
	"stoa/disk"
	"stoa/tablet"
)

// story is all that a tablet can do in short: batches, tasks of all kinds, and batches between their steps.
func story(x *world) {
	x.t.Helper()
	x.write(insert(1, "a"), insert(2, "b"), insert(5, "c"))
	x.write(update(1, "d"), remove(2))
	x.work(api.TFlush, 0)
	x.write(update(1, "e"), insert(3, "f"), insert(2, "g"))
	k := x.task(api.TDelta, 0)
	x.goSome(k, 2)
	x.write(update(5, "h"), insert(9, "i"))
	x.goSome(k, 20)
	x.mark(1)
	k = x.task(api.TFlush, 0)
	x.goSome(k, 5)
	x.write(update(3, "j"), remove(9), insert(7, "k"))
	x.write(insert(9, "l"), update(5, "m"))
	x.goSome(k, 20)
	x.work(api.TLog, 0)
	k = x.task(api.TMajor, 0)
	other := x.task(api.TDelta, 1)
	x.goSome(k, 3)
	x.goSome(other, 2)
	x.write(update(1, "n"), update(3, "o"))
	x.goSome(k, 20)
	x.goSome(other, 20)
	x.mark(x.real.Clean())
	x.work(api.TMerge, 100)
	x.write(remove(1), insert(8, "p"))
	x.work(api.TLog, 0)
}

// goSome does some steps of a task that may have ended, or never have begun.
func (x *world) goSome(k *tablet.Task, n int) {
	x.t.Helper()
	for range n {
		if k == nil || !slices.Contains(x.tasks, k) || x.step(k) {
			return
		}
	}
}

// TestEveryFate breaks the story off at every step, in every way, and goes on from there.
func TestEveryFate(t *testing.T) {
	r := rand.New(rand.NewPCG(25, 6))
	begin := newWorld(t, confOf(small()))
	story(begin)
	begin.check()
	steps := begin.disk.Steps()
	if steps < 120 {
		t.Errorf("the story has only %d steps", steps)
	}
	for step := 6; step <= steps; step++ {
		for kind := 1; kind <= 4; kind++ {
			for keep := range 4 {
				x := newWorld(t, confOf(small()))
				x.fails = true
				x.disk.Plan(api.Fate{Step: step, Kind: kind, N: 7 * keep})
				story(x)
				x.check()
				var keeps []int
				switch keep {
				case 1:
					keeps = slices.Repeat([]int{1000}, 100)
				case 2:
					keeps = anyKeeps(r, x.disk)
				case 3:
					keeps = append([]int{r.IntN(x.disk.Loose() + 1)}, slices.Repeat([]int{1000}, 100)...)
				}
				x.fails = false
				x.crash(keeps...)
				x.twice()
				x.tidy()
				x.write(update(5, "q"), insert(1, "r"), insert(2, "s"), insert(6, "t"))
				x.check()
				x.work(api.TFlush, 0)
				x.work(api.TMerge, 100)
				x.work(api.TLog, 0)
				x.tidy()
				x.check()
				x.twice()
			}
		}
	}
}

// TestFatesOfTasks lets a step of a task be refused, goes on with others, and lets the power go at some later step.
func TestFatesOfTasks(t *testing.T) {
	for _, kind := range []int{api.TFlush, api.TDelta, api.TMajor, api.TMerge, api.TLog} {
		for step := 1; step < 34; step++ {
			for more := range 30 {
				x := newWorld(t, confOf(small()))
				x.write(insert(1, "a"), insert(2, "b"))
				x.work(api.TFlush, 0)
				x.write(insert(0, "c"), insert(9, "d"))
				x.work(api.TFlush, 0)
				x.write(update(1, "e"), update(9, "f"), insert(5, "g"))
				arg := 0
				if kind == api.TMerge {
					arg = 100
				}
				x.fails = true
				at := x.disk.Steps() + step
				x.disk.Plan(api.Fate{Step: at, Kind: 1 + step%2}, api.Fate{Step: at + 1 + more, Kind: 3 + more%2})
				x.work(kind, arg)
				if x.disk.Steps() < at {
					break
				}
				x.write(update(1, "h"), update(9, "i"), update(5, "j"))
				x.work(kind, arg)
				x.write(update(1, "k"), insert(7, "l"))
				x.work(api.TLog, 0)
				x.check()
				x.fails = false
				x.disk.Plan()
				x.crash(more%7, 1000, 1000, 1000, 1000, 1000)
				x.check()
				x.twice()
				x.tidy()
			}
		}
	}
}

// TestFatesOfTwo has a task in the midst of which another one is refused, and fails.
func TestFatesOfTwo(t *testing.T) {
	for _, kinds := range [][2]int{{api.TMajor, api.TFlush}, {api.TFlush, api.TMajor}, {api.TMajor, api.TDelta}, {api.TMerge, api.TFlush}} {
		for steps := range 12 {
			for n := 1; ; n++ {
				x := newWorld(t, confOf(small()))
				x.write(insert(1, "a"), insert(2, "b"))
				x.work(api.TFlush, 0)
				x.write(insert(0, "c"), insert(9, "d"))
				x.work(api.TFlush, 0)
				x.write(update(1, "e"), update(9, "f"), insert(5, "g"))
				var tasks []*tablet.Task
				for i, kind := range kinds {
					arg := i
					if kind == api.TMerge {
						arg = 100
					}
					tasks = append(tasks, x.task(kind, arg))
				}
				x.goSome(tasks[0], steps)
				x.fails = true
				at := x.disk.Steps() + n
				x.disk.Plan(api.Fate{Step: at, Kind: api.FFail})
				x.goSome(tasks[1], 100)
				done := x.disk.Steps() < at
				x.disk.Plan()
				x.fails = false
				if n%2 == 0 {
					x.write(update(1, "h"), update(9, "i"))
				}
				x.goSome(tasks[0], 100)
				x.check()
				if n%4 < 2 {
					x.work(api.TFlush, 0)
				}
				x.crash(slices.Repeat([]int{1000}, 100)...)
				x.tidy()
				if done {
					break
				}
			}
		}
	}
}

// TestOpenedAgainWithoutACrash opens a disk anew on which a batch was logged, and not yet safe; what was told then isn't lost in part behind a crash.
func TestOpenedAgainWithoutACrash(t *testing.T) {
	for keep := range 2 {
		x := newWorld(t, confOf(small()))
		x.write(insert(1, "a"))
		x.work(api.TFlush, 0)
		w := x.begin(update(1, "b"), insert(2, "c"))
		x.lock(w)
		x.log(w)
		for _, name := range []string{"wal-zzzzzz", "wal-00000x", "wal-0000009", "wal-99999", "wam-000009"} {
			x.disk.Create(name)
		}
		x.reopen()
		x.write(insert(3, "d"))
		x.work(api.TFlush, 0)
		x.disk.On(slices.Repeat([]int{keep * 1000}, 30)...)
		x.reopen()
		same(x, "batches", len(x.plain.done), 3)
		x.check()
	}
}

// TestLastSegment goes to the last number of a segment: the log refuses what needs one more, and the tablet is closed, though no step was refused.
func TestLastSegment(t *testing.T) {
	x := newWorld(t, confOf(small()))
	x.conf.Seg = 1
	x.disk.Create("wal-999998")
	x.crash(1000)
	x.fails = true
	a, b, c := x.begin(insert(1, "a")), x.begin(insert(2, "b")), x.begin(insert(3, "c"))
	k := x.task(api.TFlush, 0)
	for _, w := range []*write{a, b, c} {
		x.lock(w)
	}
	if x.log(a) != 0 || x.log(b) != 160 || x.log(c) != 253 || x.sync(a) != 160 {
		t.Error("Log behind the last segment")
	}
	same(x, "Closed", x.real.Closed(), true)
	if _, e := k.Step(); e != 253 {
		t.Errorf("Step = %d", e)
	}
	x.tasks = nil
	x.crash(1000, 1000, 1000, 1000)
	if w := x.begin(insert(1, "a")); !x.lock(w) || x.log(w) != 160 {
		t.Error("Log behind the last segment, opened anew")
	}
	x.crash()
	x.mark(0)
	same(x, "Closed", x.real.Closed(), true)
}

// TestCorruptLog asks for what can't be read, where the log is read and where a batch is.
func TestCorruptLog(t *testing.T) {
	x := newWorld(t, confOf(small()))
	rich(x)
	files := x.disk.Files()
	turned := func(name string) *disk.Disk {
		d := loaded(t, files)
		i := slices.IndexFunc(d.Files(), func(f api.File) bool { return f.Name == name })
		if d.Flip(i, 0, 1) != 0 {
			t.Fatal("Flip")
		}
		return d
	}
	// The log has an update of the first row of each.
	for _, name := range []string{"set-000001.col-01", "set-000001.live", "set-000001.keys", "set-000002.col-01"} {
		wantOpen(t, name, turned(name), x.conf, 6)
	}
	x.work(api.TDelta, 0)
	x.work(api.TDelta, 1)
	x.work(api.TFlush, 0)
	x.work(api.TLog, 0)
	files = x.disk.Files()
	y := &world{t: t, disk: turned("set-000001.col-01"), conf: x.conf, plain: x.plain}
	real, e := y.open()
	if e != 0 {
		t.Fatalf("Open = %d", e)
	}
	// What isn't in the rowset goes on; what is can't be read.
	w, _ := real.Begin([]api.Op{insert(100, "new"), update(1, "n")})
	other, _ := real.Begin([]api.Op{insert(100, "new")})
	w.Lock()
	if e := w.Log(); e != 6 || real.Closed() || real.Clean() != real.Last() {
		t.Errorf("Log = %d", e)
	}
	if w.Log() != 261 || w.Sync() != 261 || !other.Lock() || other.Log() != 0 || other.Sync() != 0 {
		t.Error("a batch behind that")
	}
	if _, results, e := other.Commit(); e != 0 || results[0] != 0 {
		t.Errorf("Commit = %v, %d", results, e)
	}
	s, _ := real.Scan(api.Spec{Time: -1, Batch: 1, Cols: []int{0}})
	if rows, last, e := s.Next(); e != 6 || last || rows != nil || s.Ready() {
		t.Errorf("Next = %d", e)
	}
	if _, _, e := s.Next(); e != 261 {
		t.Errorf("Next behind that = %d", e)
	}
	// A scan that doesn't come to it tells what there is.
	s, _ = real.Scan(api.Spec{Time: -1, Batch: 9, Cols: []int{0}, Low: []api.Cell{num(50)}})
	if rows, last, e := s.Next(); e != 0 || !last || rowsText(rows) != rowsText([][]api.Cell{{num(100)}}) {
		t.Errorf("Next = %s, %v, %d", rowsText(rows), last, e)
	}
	k, _ := real.Task(api.TMajor, 0)
	if over, e := k.Step(); over || e != 6 {
		t.Errorf("Step = %v, %d", over, e)
	}
	if e := real.Mark(real.Clean()); e != 0 {
		t.Errorf("Mark = %d", e)
	}
}

// TestManyLives has a key in several rowsets, of which an earlier one has all changes of its own rows, and the last one lacks some.
func TestManyLives(t *testing.T) {
	x := newWorld(t, confOf(small()))
	x.write(insert(1, "a"), insert(2, "b"), insert(3, "c"))
	x.work(api.TFlush, 0)
	x.write(remove(2))
	x.write(insert(2, "d"))
	x.work(api.TFlush, 0)
	x.write(remove(2))
	x.write(insert(2, "e"), insert(0, "f"), insert(9, "g"))
	x.work(api.TFlush, 0)
	x.write(update(2, "h"))
	x.write(update(1, "i"))
	x.work(api.TDelta, 0)
	x.twice()
	x.work(api.TDelta, 1)
	x.twice()
	x.write(remove(2))
	x.write(update(1, "j"))
	x.work(api.TDelta, 0)
	x.twice()
	x.write(insert(2, "k"))
	x.write(update(1, "l"), update(9, "m"))
	x.work(api.TDelta, 0)
	x.work(api.TDelta, 2)
	x.twice()
	x.work(api.TMerge, 100)
	x.twice()
	same(x, "Sets", x.real.Sets(), 1)
}

// flips calls a function with the files in which bits of one are turned, in all ways of which there are not too many.
func flips(files []api.File, do func(what string, d *disk.Disk)) {
	r := rand.New(rand.NewPCG(25, 7))
	for i, f := range files {
		for at := range f.Data {
			for n := range 10 {
				d, e := disk.Load(api.MaxRoom, files...)
				if e != 0 {
					panic("Load")
				}
				if n < 8 {
					d.Flip(i, at, 1<<n)
				} else {
					// A run that begins here, of 9 to 32 bits.
					d.Flip(i, at, byte(1+r.IntN(255)))
					for more := 1; more < 2+r.IntN(3) && at+more < len(f.Data); more++ {
						d.Flip(i, at+more, byte(r.IntN(256)))
					}
				}
				do(f.Name, d)
			}
		}
	}
}

// TestTurnedBits turns bits of all files, and looks at all that is told then.
func TestTurnedBits(t *testing.T) {
	x := newWorld(t, confOf(small()))
	for id := range int64(9) {
		x.write(insert(id*3%10, "a"))
	}
	x.write(update(3, "b"), remove(6), update(0, "c"))
	x.work(api.TFlush, 0)
	x.write(update(3, "d"), remove(0), insert(6, "e"))
	x.work(api.TDelta, 0)
	x.write(update(9, "f"), insert(7, "g"), insert(0, "h"))
	x.work(api.TFlush, 0)
	x.mark(8)
	x.work(api.TDelta, 0)
	x.work(api.TDelta, 1)
	x.work(api.TLog, 0)
	x.crash()
	x.work(api.TLog, 0)
	x.write(update(3, "i"), insert(4, "j"))
	x.write(update(7, "k"), remove(9))
	x.crash()
	times := x.times()
	want := map[int64]string{}
	for _, at := range times {
		want[at] = rowsText(x.plain.scanned(api.Spec{Cols: x.allCols()}, at))
	}
	opened, wrong, tasks := 0, 0, 0
	flips(x.disk.Files(), func(what string, d *disk.Disk) {
		real, e := tablet.Open(d, x.conf)
		if e != 0 {
			if e != 6 || real != nil {
				t.Errorf("%s: Open = %d", what, e)
			}
			return
		}
		opened++
		y := &world{t: t, disk: d, conf: x.conf, real: real, plain: x.plain}
		look := func() {
			for _, at := range times {
				got, e := y.snapshot(at)
				if e != 0 && e != 6 || e == 0 && got != want[at] {
					t.Errorf("%s: at %d: %s, not %s (%d)", what, at, got, want[at], e)
				}
				if e != 0 {
					wrong++
				}
			}
		}
		look()
		if opened%3 == 0 {
			for _, task := range [][2]int{{api.TDelta, 0}, {api.TFlush, 0}, {api.TMajor, 0}, {api.TMerge, 100}, {api.TLog, 0}} {
				k, _ := real.Task(task[0], task[1])
				for over, e := false, api.OK; !over && e == 0; {
					if over, e = k.Step(); e != 0 && e != 6 {
						t.Errorf("%s: a step = %d", what, e)
					}
				}
				tasks++
			}
			look()
		}
		last := real.Last()
		for id := range int64(10) {
			_, there := x.plain.rows(greatest)[x.plain.keyText([]api.Cell{num(id)})]
			for _, op := range []api.Op{insert(id, "new"), update(id, "newer"), remove(id)} {
				w, _ := real.Begin([]api.Op{op})
				if !w.Lock() {
					t.Fatalf("%s: Lock", what)
				}
				last++
				if e := w.Log(); e != 0 {
					if e != 6 {
						t.Errorf("%s: Log = %d", what, e)
					}
					if real.Clean() != last || w.Log() != 261 || w.Sync() != 261 {
						t.Errorf("%s: the timestamp wasn't aborted", what)
					}
					wrong++
					continue
				}
				w.Sync()
				_, rs, _ := w.Commit()
				if ok := op.Kind == 1 != there; ok != (rs[0] == 0) {
					t.Errorf("%s: %d comes to %d", what, op.Kind, rs[0])
				}
				there = op.Kind != 3
			}
		}
		if real.Closed() {
			t.Errorf("%s: closed", what)
		}
	})
	if opened < 100 || wrong < 100 || tasks < 100 {
		t.Errorf("%d were opened, %d answers were wrong, %d tasks", opened, wrong, tasks)
	}
}

// TestTurnedBeneath turns bits beneath a tablet that is open: it goes on as before, or tells it.
func TestTurnedBeneath(t *testing.T) {
	x := newWorld(t, confOf(small()))
	rich(x)
	r := rand.New(rand.NewPCG(25, 8))
	for range 200 {
		files := x.disk.Files()
		i := r.IntN(len(files))
		if len(files[i].Data) > 0 {
			x.disk.Flip(i, r.IntN(len(files[i].Data)), 1)
		}
	}
	for _, at := range x.times() {
		if got, e := x.snapshot(at); e != 6 && (e != 0 || got != rowsText(x.plain.scanned(api.Spec{Cols: x.allCols()}, at))) {
			t.Errorf("at %d: %s, %d", at, got, e)
		}
	}
}
