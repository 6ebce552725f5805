package tablet_test

import (
	"math/bits"
	"math/rand/v2"
	"slices"
	"strings"
	"testing"
	"time"

	"stoa/api"
	"stoa/cfile"
	"stoa/disk"
	"stoa/keys"
	"stoa/meta"
	"stoa/rowset"
	"stoa/tablet"
)

// named are the files that are to be there: those that the superblock names.
func (x *world) named() []string {
	x.t.Helper()
	super, there, e := meta.Load(x.disk)
	if e != 0 || !there {
		x.fail("no superblock: %d", e)
	}
	names := []string{"super"}
	for _, set := range super.Sets {
		parts := []string{"base", "bloom", "keys", "live", "undo"}
		for col := x.conf.Schema.Keys; col < len(x.conf.Schema.Cols); col++ {
			parts = append(parts, "col-"+string(rune('0'+col/10))+string(rune('0'+col%10)))
		}
		for n := 1; n <= set.Files; n++ {
			parts = append(parts, "redo-00"+string(rune('0'+n)))
		}
		for _, part := range parts {
			name, e := meta.Name(set.Id, part)
			if e != 0 {
				x.fail("Name = %d", e)
			}
			names = append(names, name)
		}
	}
	slices.Sort(names)
	return names
}

// tidy fails unless there are just the files that the superblock names, and the log.
func (x *world) tidy() {
	x.t.Helper()
	var names []string
	for _, f := range x.disk.Files() {
		if !strings.HasPrefix(f.Name, "wal-") {
			names = append(names, f.Name)
		}
	}
	if want := x.named(); !slices.Equal(names, want) {
		x.fail("files %v, not %v", names, want)
	}
}

func (x *world) segments() int {
	n := 0
	for _, f := range x.disk.Files() {
		if strings.HasPrefix(f.Name, "wal-") {
			n++
		}
	}
	return n
}

func TestTaskErrors(t *testing.T) {
	x := newWorld(t, confOf(small()))
	kinds := []int{-1 << 62, -1, 0, 6, 7, 1 << 62}
	for _, kind := range kinds {
		x.task(kind, 0)
	}
	idle := func() {
		t.Helper()
		for _, arg := range []int{-1 << 63, -1, x.real.Sets(), x.real.Sets() + 1, 1<<63 - 1} {
			for _, kind := range []int{api.TDelta, api.TMajor} {
				steps := x.disk.Steps()
				if k := x.task(kind, arg); !x.step(k) {
					t.Error("a task on no rowset goes on")
				}
				same(x, "steps", x.disk.Steps(), steps)
			}
		}
	}
	idle()
	steps := x.disk.Steps()
	for _, c := range [][2]int{{api.TFlush, 0}, {api.TMerge, -1}, {api.TMerge, 1 << 62}} {
		if k := x.task(c[0], c[1]); !x.step(k) {
			t.Error("a task with nothing to do goes on")
		}
	}
	same(x, "steps", x.disk.Steps(), steps)
	x.write(insert(1, "a"))
	x.work(api.TFlush, -5)
	idle()
	if k := x.task(api.TDelta, 0); !x.step(k) {
		t.Error("a delta of nothing goes on")
	}
	x.work(api.TMerge, 1<<62)
	x.tidy()

	// On a closed tablet there is no task; that there is no such kind goes ahead.
	x.fails = true
	x.disk.Plan(api.Fate{Step: x.disk.Steps() + 1, Kind: api.FFail})
	x.write(insert(2, "b"))
	same(x, "Closed", x.real.Closed(), true)
	for _, kind := range append(kinds, 1, 2, 3, 4, 5) {
		x.task(kind, 0)
	}
}

// TestWhatTasksDo looks at what each task lays and takes away.
func TestWhatTasksDo(t *testing.T) {
	x := newWorld(t, confOf(small()))
	want := func(sets, fresh int, files ...string) {
		t.Helper()
		same(x, "Sets", x.real.Sets(), sets)
		same(x, "Fresh", x.real.Fresh(), fresh)
		x.tidy()
		x.check()
		for _, name := range files {
			if !hasFile(x.disk, name) {
				x.fail("no file %s", name)
			}
		}
		x.twice()
		x.tidy()
	}
	want(0, 0)
	x.write(insert(1, "a"), insert(2, "b"))
	x.write(update(1, "c"))
	want(0, 2)
	x.work(api.TFlush, 0)
	want(1, 0, "set-000001.base")
	x.write(update(2, "d"), remove(1))
	x.work(api.TDelta, 0)
	want(1, 0, "set-000001.redo-001")
	x.write(insert(1, "e"), insert(4, "f"))
	x.work(api.TDelta, 0)
	want(1, 2)
	x.write(update(2, "g"), update(1, "h"))
	x.work(api.TDelta, 0)
	want(1, 2, "set-000001.redo-002")
	x.work(api.TMajor, 0)
	want(1, 2, "set-000002.base")
	x.work(api.TFlush, 0)
	want(2, 0, "set-000002.base", "set-000003.base")
	x.write(insert(0, "i"), insert(9, "j"))
	x.work(api.TFlush, 0)
	want(3, 0, "set-000004.base")
	x.write(update(2, "k"), remove(9))
	x.work(api.TMerge, 3)
	want(3, 0)
	x.work(api.TMerge, 4)
	want(2, 0, "set-000005.base")
	x.work(api.TMerge, 6)
	want(1, 0, "set-000006.base")
	x.write(remove(0), remove(1), remove(2), remove(4))
	x.mark(x.real.Clean())
	x.work(api.TMajor, 0)
	want(0, 0)
	x.write(insert(5, "l"))
	x.write(remove(5))
	x.mark(x.real.Clean())
	want(0, 1)
	x.work(api.TFlush, 0)
	want(0, 0)
}

// TestLogIsDropped looks at which segments are dropped: all that no Open needs.
func TestLogIsDropped(t *testing.T) {
	x := newWorld(t, confOf(small()))
	x.conf.Seg = 1
	x.crash()
	drop := func(want int) {
		t.Helper()
		x.work(api.TLog, 0)
		same(x, "segments", x.segments(), want)
		x.check()
		x.twice()
	}
	drop(0)
	x.write(insert(1, "a"))
	x.write(insert(2, "b"))
	x.write(insert(2, "b"))
	x.mark(2)
	same(x, "segments", x.segments(), 4)
	drop(4)
	x.work(api.TFlush, 0)
	drop(0)
	same(x, "Floor", x.real.Floor(), 2)
	same(x, "Last", x.real.Last(), 4)
	x.write(update(1, "c"))
	x.write(insert(2, "b"))
	x.write(insert(3, "d"))
	drop(3)
	x.work(api.TDelta, 0)
	drop(1)
	x.write(update(1, "e"))
	x.write(insert(4, "f"))
	x.work(api.TFlush, 0)
	drop(2)
	x.work(api.TMajor, 0)
	drop(0)
	same(x, "Last", x.real.Last(), 9)
	// The last segment that was made stays, even if nobody needs it; and so do those with what is in flight.
	x.write(insert(5, "g"))
	x.work(api.TFlush, 0)
	x.work(api.TLog, 0)
	same(x, "segments", x.segments(), 1)
	a := x.begin(insert(6, "h"))
	x.lock(a)
	x.log(a)
	x.write(insert(1, "there"))
	x.work(api.TLog, 0)
	same(x, "segments", x.segments(), 2)
	x.mark(x.real.Clean())
	x.sync(a)
	x.commit(a)
	x.crash()
	x.check()
}

// TestTasksWait has tasks that wait for a batch, where they look at rows and where they move them, and go on behind it.
func TestTasksWait(t *testing.T) {
	for _, kind := range []int{api.TFlush, api.TDelta, api.TMajor, api.TMerge} {
		for at := range 12 {
			for how := range 3 {
				x := newWorld(t, confOf(small()))
				x.write(insert(1, "a"), insert(2, "b"))
				x.work(api.TFlush, 0)
				x.write(update(1, "c"), insert(0, "d"), insert(9, "e"))
				x.work(api.TFlush, 0)
				x.write(update(9, "f"), update(1, "g"), insert(3, "h"))
				arg := 0
				if kind == api.TMerge {
					arg = 100
				}
				w := x.begin(update(1, "i"), remove(9), update(3, "j"), insert(7, "k"))
				x.lock(w)
				k := x.task(kind, arg)
				over := false
				for range at {
					over = over || x.step(k)
				}
				x.log(w)
				for range 100 {
					over = over || x.step(k)
				}
				switch how {
				case 0:
					x.sync(w)
					x.commit(w)
				case 1:
					x.sync(w)
					for range 100 {
						over = over || x.step(k)
					}
					x.commit(w)
				case 2:
					// The power goes while the task waits.
					x.crash(1000, 1000, 1000)
					continue
				}
				for i := 0; !over; i++ {
					over = x.step(k)
					if i > 64 {
						x.fail("it doesn't end")
					}
				}
				x.write(update(9, "l"), update(1, "m"), update(3, "n"), update(7, "o"))
				x.check()
				x.tidy()
				x.crash()
				x.check()
			}
		}
	}
}

// TestBetweenSteps does batches between any steps of any task.
func TestBetweenSteps(t *testing.T) {
	for _, kind := range []int{api.TFlush, api.TDelta, api.TMajor, api.TMerge} {
		for at := range 12 {
			for what := range 8 {
				x := newWorld(t, confOf(small()))
				x.write(insert(1, "a"), insert(2, "b"), insert(8, "z"))
				x.write(remove(2))
				x.work(api.TFlush, 0)
				x.write(update(1, "c"), insert(0, "d"), insert(9, "e"))
				x.work(api.TFlush, 0)
				x.write(update(9, "f"), update(1, "g"), insert(3, "h"), insert(5, "y"))
				x.write(remove(5))
				x.mark(3)
				arg := 0
				if kind == api.TMerge {
					arg = 100
				}
				k := x.task(kind, arg)
				over := false
				for range at {
					over = over || x.step(k)
				}
				switch what {
				case 0:
					x.write(update(1, "i"), update(9, "j"), update(3, "k"))
					x.write(remove(1), remove(3), remove(9))
					x.write(insert(1, "l"), insert(3, "m"), insert(9, "n"))
					x.write(update(1, "i"), update(9, "j"), update(3, "k"))
				case 1:
					x.write(insert(2, "o"), insert(5, "p"), insert(7, "q"))
				case 2:
					x.write(insert(5, "p"))
					x.write(remove(5), remove(8))
					x.write(insert(5, "q"), insert(8, "r"))
				case 3:
					x.mark(x.real.Clean())
				case 4:
					x.write(remove(1), remove(8), remove(0), remove(9), remove(3))
					x.mark(x.real.Clean())
				case 5:
					// Another task of each kind goes on meanwhile, or waits.
					for other := 1; other <= 5; other++ {
						o := x.task(other, arg)
						for i := 0; i < 20 && !x.step(o); i++ {
						}
					}
				case 6:
					x.write(update(1, "i"))
					o := x.task(api.TLog, 0)
					for !x.step(o) {
					}
				case 7:
					x.write(insert(20, "new"))
				}
				for i := 0; !over; i++ {
					over = x.step(k)
					if i > 64 {
						x.fail("it doesn't end")
					}
				}
				x.check()
				x.write(update(1, "s"), insert(2, "t"), remove(3), insert(5, "u"), update(8, "v"), insert(9, "w"))
				x.check()
				x.crash()
				x.check()
				x.twice()
				x.tidy()
				for other := 1; other <= 5; other++ {
					x.work(other, 100*(other/4))
				}
				x.check()
			}
		}
	}
}

// TestSameRows has tasks that work on the same rows: one of them waits until the other is over.
func TestSameRows(t *testing.T) {
	type job struct{ kind, arg int }
	jobs := []job{{api.TFlush, 0}, {api.TDelta, 0}, {api.TMajor, 0}, {api.TMerge, 100}, {api.TMajor, 1}, {api.TDelta, 1}}
	for _, a := range jobs {
		for _, b := range jobs {
			x := newWorld(t, confOf(small()))
			x.write(insert(1, "a"), insert(2, "b"))
			x.work(api.TFlush, 0)
			x.write(insert(0, "c"), insert(9, "d"))
			x.work(api.TFlush, 0)
			x.write(update(1, "e"), update(9, "f"), insert(5, "g"))
			first, second := x.task(a.kind, a.arg), x.task(b.kind, b.arg)
			x.step(first)
			for range 70 {
				if slices.Contains(x.tasks, second) {
					x.step(second)
				}
			}
			meets := a == b || a.kind != api.TFlush && b.kind != api.TFlush && (a.arg == b.arg || a.kind == api.TMerge || b.kind == api.TMerge)
			if !slices.Contains(x.tasks, second) == meets {
				x.fail("%v behind the beginning of %v: it waits is %v", b, a, !meets)
			}
			for slices.Contains(x.tasks, first) {
				x.step(first)
			}
			for i := 0; slices.Contains(x.tasks, second); i++ {
				x.step(second)
				if i > 64 {
					x.fail("it doesn't end")
				}
			}
			x.check()
			x.tidy()
			x.crash()
			x.check()
		}
	}
}

// TestSameRowsBehindAnError has a task that goes on behind one that failed, and that may not have taken away what it had laid.
func TestSameRowsBehindAnError(t *testing.T) {
	for _, kind := range []int{api.TFlush, api.TDelta, api.TMajor, api.TMerge, api.TLog} {
		failed := 0
		for n := range 90 {
			x := newWorld(t, confOf(small()))
			x.fails = true
			x.write(insert(1, "a"), insert(2, "b"))
			x.work(api.TFlush, 0)
			x.write(insert(0, "c"), insert(9, "d"))
			x.work(api.TFlush, 0)
			x.write(update(1, "e"), update(9, "f"), insert(5, "g"))
			arg := 0
			if kind == api.TMerge {
				arg = 100
			}
			first, second := x.task(kind, arg), x.task(kind, arg)
			at, how := x.disk.Steps()+1+n/3, 1+n%2
			fates := []api.Fate{{Step: at, Kind: how}, {Step: at + 1, Kind: how}, {Step: at + 2, Kind: how}}
			x.disk.Plan(fates[:1+n%3]...)
			for slices.Contains(x.tasks, first) {
				x.step(first)
			}
			if x.disk.Steps() >= at {
				same(x, "the error", x.failed, []api.Errno{141, 142}[n%2])
				failed++
			}
			x.disk.Plan()
			// Nothing is refused any more, unless the log is dead.
			x.fails = x.real.Closed()
			for i := 0; slices.Contains(x.tasks, second); i++ {
				x.step(second)
				if i > 64 {
					x.fail("it doesn't end")
				}
			}
			x.check()
			if kind == api.TDelta {
				super, _, _ := meta.Load(x.disk)
				same(x, "delta files", super.Sets[0].Files, 1)
			}
			if x.real.Closed() {
				same(x, "the kind of a task that closes the tablet", kind, api.TLog)
			} else {
				// What the first one couldn't take away is taken by a later one.
				x.work(api.TLog, 0)
				if n%3 == 0 {
					x.tidy()
				}
			}
			x.write(update(1, "h"), update(9, "i"), update(5, "j"))
			x.check()
			x.fails = false
			x.crash(n)
			x.check()
			x.tidy()
		}
		if failed < 15 {
			t.Errorf("only %d tasks of kind %d failed", failed, kind)
		}
	}
}

// TestSteps counts the steps of the longest tasks.
func TestSteps(t *testing.T) {
	s := small()
	for i := range 10 {
		s.Cols = append(s.Cols, api.Column{Name: "more" + string(rune('a'+i)), Kind: api.KI64, Null: true})
	}
	conf := confOf(s)
	conf.Seg = api.MaxSeg
	x := newWorld(t, conf)
	row := func(id int64) api.Op {
		row := []api.Cell{num(id), text("n")}
		for range 10 {
			row = append(row, null())
		}
		return api.Op{Kind: 1, Row: row}
	}
	for n := range int64(3) {
		x.write(row(n), row(100-n))
		x.work(api.TFlush, 0)
	}
	x.write(update(1, "x"))
	for _, kind := range []int{api.TDelta, api.TMajor, api.TMerge, api.TLog} {
		x.work(kind, 100)
		x.work(kind, 1)
	}
	x.check()

	// A flush into fifteen rowsets lays more files than it may have steps.
	conf = api.Conf{Schema: keyed(), Seg: api.MaxSeg, Block: 100}
	for n := range 2048 {
		conf.Heights = append(conf.Heights, 1+bits.TrailingZeros(uint(n+1)))
	}
	d := disk.New(api.MaxRoom)
	many, _ := tablet.Open(d, conf)
	for n := range int64(14*64 + 1) {
		var ops []api.Op
		for i := range int64(64) {
			ops = append(ops, idOnly(n*64+i))
		}
		w, e := many.Begin(ops)
		if e != 0 || !w.Lock() || w.Log() != 0 || w.Sync() != 0 {
			t.Fatalf("a batch: %d", e)
		}
		w.Commit()
	}
	k, e := many.Task(api.TFlush, 0)
	steps := 0
	for over := false; !over && e == 0; steps++ {
		over, e = k.Step()
	}
	if e != 0 || steps > 64 || many.Sets() != 15 || many.Fresh() != 0 {
		t.Errorf("a flush of many rows: %d steps, %d; %d sets", steps, e, many.Sets())
	}
	d.On()
	if many, e := tablet.Open(d, conf); e != 0 || many.Sets() != 15 {
		t.Errorf("opened anew: %d", e)
	}
}

// TestNothingIsLeft flushes rows of which the first so many are gone, so that there is no rowset of them.
func TestNothingIsLeft(t *testing.T) {
	conf := confOf(keyed())
	conf.Seg, conf.Block = api.MaxSeg, 4096
	x := newWorld(t, conf)
	for _, kind := range []int{api.OInsert, api.ODelete} {
		for id := int64(0); id < 4096; {
			var ops []api.Op
			for range 64 {
				ops = append(ops, api.Op{Kind: kind, Row: []api.Cell{num(id)}})
				id++
			}
			w, e := x.real.Begin(ops)
			if e != 0 || !w.Lock() || w.Log() != 0 || w.Sync() != 0 {
				t.Fatalf("a batch: %d", e)
			}
			at, _, _ := w.Commit()
			x.plain.last = at
		}
	}
	x.write(idOnly(5000), idOnly(5001))
	x.mark(x.real.Clean())
	x.work(api.TFlush, 0)
	same(x, "Sets", x.real.Sets(), 1)
	same(x, "Fresh", x.real.Fresh(), 0)
	x.check()
	x.twice()
}

// TestBlocks looks at how many rows the blocks of the files have.
func TestBlocks(t *testing.T) {
	for _, c := range []struct{ block, rows, want int }{
		{-1 << 62, 3, 3}, {0, 3, 3}, {1, 3, 3}, {2, 3, 2}, {3, 3, 1}, {4096, 4096, 1}, {4097, 4096, 1}, {1 << 62, 4096, 1}, {4095, 4096, 2},
	} {
		x := newWorld(t, api.Conf{Schema: keyed(), Seg: api.MaxSeg, Block: c.block, Heights: []int{1, 2, 1, 4, 1, 2, 1, 8}})
		for id := 0; id < c.rows; {
			var ops []api.Op
			for ; id < c.rows && len(ops) < 64; id++ {
				ops = append(ops, idOnly(int64(id)))
			}
			w, _ := x.real.Begin(ops)
			w.Lock()
			w.Log()
			w.Sync()
			w.Commit()
		}
		k, _ := x.real.Task(api.TFlush, 0)
		for over, e := false, api.OK; !over && e == 0; {
			over, e = k.Step()
		}
		for _, part := range []string{"keys", "live"} {
			f, e := cfile.Open(dataOf(x.disk, "set-000001."+part))
			if e != 0 || f.Blocks() != c.want {
				t.Fatalf("%d rows, %d to a block: %d, %d", c.rows, c.block, f.Blocks(), e)
			}
		}
	}
}

// TestGenerations looks at the superblocks' numbers, which rise from one to the next, and at what else they tell.
func TestGenerations(t *testing.T) {
	x := newWorld(t, confOf(small()))
	for n := range 5 {
		super, there, e := meta.Load(x.disk)
		if e != 0 || !there || super.Gen != n+1 || super.Mark != x.plain.mark {
			t.Errorf("the superblock is %+v, %v, %d", super, there, e)
		}
		if n > 0 {
			// The last saved is from ahead of the crash.
			same(x, "Last", super.Last, x.plain.last)
			same(x, "Cover", super.Sets[n-1].Cover, super.Last)
			same(x, "Flush", super.Flush, super.Last)
			same(x, "Next", super.Next, n+1)
		}
		x.tick(3)
		x.write(insert(int64(n), "a"))
		x.mark(x.real.Clean())
		x.work(api.TFlush, 0)
		x.crash()
	}
}

// TestTicksAhead has ticks go by ahead of tasks: behind a crash, when they are forgotten, batches come at times that had gone by.
func TestTicksAhead(t *testing.T) {
	for _, kind := range []int{api.TFlush, api.TDelta, api.TMajor, api.TMerge, api.TLog} {
		x := newWorld(t, confOf(small()))
		x.write(insert(1, "a"), insert(3, "b"))
		x.work(api.TFlush, 0)
		x.write(insert(2, "c"))
		x.work(api.TFlush, 0)
		x.write(update(1, "d"), insert(4, "e"))
		x.tick(100)
		x.work(kind, kind/4*100)
		x.crash()
		x.write(update(1, "f"), update(4, "g"), insert(5, "h"))
		x.write(update(2, "i"), remove(3))
		x.check()
		x.twice()
		x.work(api.TFlush, 0)
		x.work(api.TMerge, 100)
		x.check()
		x.twice()
	}
}

// TestTwoFlushes begins a flush while another one is under way, with tasks of all kinds begun between.
func TestTwoFlushes(t *testing.T) {
	for kind := 1; kind <= 5; kind++ {
		x := newWorld(t, confOf(small()))
		x.write(insert(1, "a"), insert(2, "b"))
		x.work(api.TFlush, 0)
		x.write(insert(0, "c"), insert(9, "d"))
		x.work(api.TFlush, 0)
		x.write(update(1, "e"), update(9, "f"), insert(5, "g"))
		first := x.task(api.TFlush, 0)
		x.step(first)
		between := x.task(kind, kind/4*100)
		x.step(between)
		second := x.task(api.TFlush, 0)
		for range 70 {
			if x.step(second) {
				x.fail("it doesn't wait")
			}
		}
		// Even when the one between is over.
		if kind != api.TFlush {
			for i := 0; slices.Contains(x.tasks, between) && i < 70; i++ {
				x.step(between)
			}
			for range 70 {
				if x.step(second) {
					x.fail("it doesn't wait")
				}
			}
		}
		for !x.step(first) {
		}
		for slices.Contains(x.tasks, between) {
			x.step(between)
		}
		for !x.step(second) {
		}
		sets := 3
		if kind == api.TMerge {
			sets = 2
		}
		same(x, "Sets", x.real.Sets(), sets)
		x.check()
		x.tidy()
	}
}

// TestClosed closes the tablet in all ways, and looks at what it still does.
func TestClosed(t *testing.T) {
	for how := range 5 {
		for kind := 1; kind <= 2; kind++ {
			x := newWorld(t, confOf(small()))
			x.conf.Seg = 1
			x.crash()
			x.fails = true
			x.write(insert(1, "a"))
			x.write(insert(2, "b"))
			x.work(api.TFlush, 0)
			x.write(insert(3, "c"))
			ready := x.begin(insert(4, "d"))
			for range 3 {
				x.goOn(ready)
			}
			inLog := x.begin(insert(5, "e"))
			for range 2 {
				x.goOn(inLog)
			}
			isLocked := x.begin(insert(6, "f"))
			x.lock(isLocked)
			isBegun := x.begin(insert(7, "g"))
			s := x.scan(api.Spec{Time: 3, Batch: 1, Cols: []int{1}})
			k := x.task(api.TDelta, 0)
			flush := x.task(api.TFlush, 0)
			plan := func(n int) {
				x.disk.Plan(api.Fate{Step: x.disk.Steps() + n, Kind: kind})
			}
			switch how {
			case 0:
				w := x.begin(insert(8, "h"))
				x.lock(w)
				plan(1)
				x.log(w)
			case 1:
				w := x.begin(insert(8, "h"))
				x.lock(w)
				x.log(w)
				plan(1)
				x.sync(w)
				x.sync(w)
				x.commit(w)
			case 2:
				plan(3)
				x.mark(1)
			case 3:
				plan(5)
				x.mark(1)
			case 4:
				// Behind the five steps of a superblock the first segment is removed.
				plan(6)
				x.work(api.TLog, 0)
			}
			same(x, "Closed", x.real.Closed(), true)
			if w := x.begin(insert(9, "i")); w != nil {
				t.Error("Begin")
			}
			x.mark(0)
			x.task(api.TFlush, 0)
			for _, task := range []*tablet.Task{k, flush} {
				if _, e := task.Step(); e != 253 {
					t.Errorf("Step on a closed tablet = %d", e)
				}
				if _, e := task.Step(); e != 261 {
					t.Errorf("Step of a task that has ended = %d", e)
				}
			}
			x.tasks = nil
			x.commit(ready)
			x.sync(inLog)
			x.commit(inLog)
			x.log(isLocked)
			x.lock(isBegun)
			x.log(isBegun)
			x.tick(3)
			for x.next(s) {
			}
			x.check()
			x.crash(9, 9, 9, 9, 9, 99, 99, 99, 99, 99, 99, 99, 99, 99, 99)
			same(x, "Closed, opened anew", x.real.Closed(), false)
			x.write(insert(9, "i"))
			x.check()
		}
	}
}

// TestWithoutRoom lets the disk be full for tasks: what they laid is taken away again, so that the log can go on.
func TestWithoutRoom(t *testing.T) {
	for room := 600; room < 3000; room += 30 {
		x := newWorld(t, confOf(small()))
		x.disk = disk.New(room)
		x.fails = true
		if !x.reopen() {
			continue
		}
		for id := range int64(3) {
			x.write(insert(id, "abcdefghij"), insert(10+id, "klm"))
		}
		if x.real.Closed() {
			continue
		}
		for _, kind := range []int{api.TFlush, api.TFlush, api.TMajor, api.TMerge, api.TDelta, api.TLog} {
			used := x.disk.Used()
			k := x.task(kind, 0)
			var e api.Errno
			for over := false; !over && e == 0; {
				over, e = k.Step()
			}
			x.tasks = nil
			if e != 0 && e != 142 {
				t.Errorf("room %d: task %d = %d", room, kind, e)
			}
			if e != 0 && kind != api.TLog && x.disk.Used() > used+200 {
				t.Errorf("room %d: task %d has left %d bytes", room, kind, x.disk.Used()-used)
			}
			same(x, "Closed", x.real.Closed(), false)
			x.check()
		}
		x.crash()
		x.check()
	}
}

// keyed is a schema of a key alone: of its rowsets as many as may be have room.
func keyed() api.Schema {
	return api.Schema{Keys: 1, Cols: small().Cols[:1]}
}

func idOnly(id int64) api.Op { return api.Op{Kind: api.OInsert, Row: []api.Cell{num(id)}} }

// TestMostSets flushes until no more rowsets may be, and goes on: the smallest ones take the rows then.
func TestMostSets(t *testing.T) {
	conf := confOf(keyed())
	conf.Seg = api.MaxSeg
	x := newWorld(t, conf)
	for id := range int64(64) {
		// The third, the sixth and so on have two rows.
		x.write(idOnly(id), idOnly(1000+id/3))
		x.work(api.TFlush, 0)
		x.story = nil
	}
	same(x, "Sets", x.real.Sets(), 64)
	for id := range int64(5) {
		x.write(idOnly(2000+id), api.Op{Kind: api.ODelete, Row: []api.Cell{num(3*id + 1)}})
		k := x.task(api.TFlush, 0)
		x.step(k)
		x.write(idOnly(3000+id), idOnly(3*id+1), api.Op{Kind: api.ODelete, Row: []api.Cell{num(3*id + 2)}})
		for !x.step(k) {
		}
		same(x, "Sets", x.real.Sets(), 64)
		same(x, "Fresh", x.real.Fresh(), 2)
		x.tidy()
		x.check()
		x.twice()
	}
	// Rowsets that other tasks have are waited for.
	for n := range 64 {
		x.step(x.task(api.TMajor, n))
	}
	majors := slices.Clone(x.tasks)
	k := x.task(api.TFlush, 0)
	for range 100 {
		x.step(k)
	}
	for _, major := range majors {
		for !x.step(major) {
		}
	}
	for !x.step(k) {
	}
	same(x, "Sets", x.real.Sets(), 64)
	same(x, "Fresh", x.real.Fresh(), 0)
	x.check()
	x.crash()
	same(x, "Sets", x.real.Sets(), 64)
}

// TestAllFull flushes where all rowsets there may be have all rows that they may have.
func TestAllFull(t *testing.T) {
	x := &world{t: t, conf: confOf(keyed()), disk: disk.New(api.MaxRoom)}
	x.conf.Block = 4096
	super := api.Meta{Gen: 1, Next: 65, Flush: 1, Last: 1, Schema: keyed()}
	lay := func(set int, rows int64) {
		t.Helper()
		var hs []api.History
		for n := range rows {
			row := []api.Cell{num(int64(set)*4096 + n)}
			key, _ := keys.Encode(keyed(), row)
			hs = append(hs, api.History{Key: key, Changes: []api.Change{{Time: 1, Kind: 1, Row: row}}})
		}
		files, e := rowset.Build(keyed(), 1, 0, 4096, hs...)
		if e != 0 {
			t.Fatalf("Build = %d", e)
		}
		for _, f := range files {
			name, _ := meta.Name(set, f.Name)
			x.disk.Remove(name)
			if x.disk.Create(name) != 0 || x.disk.Append(name, f.Data) != 0 {
				t.Fatal("a file")
			}
		}
		super.Sets = append(super.Sets[:set-1], api.SetMeta{Id: set, Rows: int(rows), Cover: 1})
	}
	for set := 1; set <= 64; set++ {
		lay(set, 4096)
	}
	for _, last := range []int64{4096, 4095} {
		lay(64, last)
		if e := meta.Save(x.disk, super); e != 0 {
			t.Fatalf("Save = %d", e)
		}
		real, e := x.open()
		if e != 0 {
			t.Fatalf("Open = %d", e)
		}
		w, _ := real.Begin([]api.Op{idOnly(-5)})
		if !w.Lock() || w.Log() != 0 || w.Sync() != 0 {
			t.Fatal("a batch")
		}
		w.Commit()
		k, _ := real.Task(api.TFlush, 0)
		steps := x.disk.Steps()
		for over := false; !over && e == 0; {
			over, e = k.Step()
		}
		if last == 4096 && (e != 142 || x.disk.Steps() != steps || real.Fresh() != 1) {
			t.Errorf("a flush where there is no room = %d", e)
		}
		if last == 4095 && (e != 0 || real.Sets() != 64 || real.Fresh() != 0) {
			t.Errorf("a flush where there is room for one = %d, %d sets", e, real.Sets())
		}
		if _, e := k.Step(); e != 261 {
			t.Errorf("a step behind that = %d", e)
		}
	}
}

// TestManyRows flushes and merges more rows than one rowset can have, and rows that are too wide for blocks as long as asked for.
func TestManyRows(t *testing.T) {
	s := small()
	s.Cols[0].Kind = api.KBytes
	for _, conf := range []struct {
		block int
		half  int // so many batches to a flush
	}{{1, 210}, {api.MaxValues, 210}, {api.MaxValues, 105}} {
		x := newWorld(t, api.Conf{Schema: s, Seg: api.MaxSeg, Block: conf.block, Heights: []int{1, 2, 1, 3, 1, 2, 1, 5}})
		r := rand.New(rand.NewPCG(25, 4))
		id := func(i int) string { return string([]byte{byte(i >> 8), byte(i)}) + strings.Repeat("x", 80) }
		put := func(ops ...api.Op) {
			t.Helper()
			w, e := x.real.Begin(ops)
			if e != 0 || !w.Lock() || w.Log() != 0 || w.Sync() != 0 {
				t.Fatalf("a batch: %d", e)
			}
			if _, _, e := w.Commit(); e != 0 {
				t.Fatalf("Commit = %d", e)
			}
		}
		for i := range 210 {
			var ops []api.Op
			for n := range 20 {
				ops = append(ops, api.Op{Kind: 1, Row: []api.Cell{text(id(i + n*210)), text(strings.Repeat("y", r.IntN(200)))}})
			}
			if i == conf.half {
				k, e := x.real.Task(api.TFlush, 0)
				for over := false; !over && e == 0; {
					over, e = k.Step()
				}
				if e != 0 || x.real.Sets() != 1 {
					t.Errorf("the first flush = %d", e)
				}
			}
			put(ops...)
		}
		told := func() string {
			t.Helper()
			s, e := x.real.Scan(api.Spec{Time: -1, Batch: 5000, Cols: []int{0, 1}})
			if e != 0 {
				t.Fatalf("Scan = %d", e)
			}
			rows, last, e := s.Next()
			if e != 0 || !last || len(rows) != 4200 {
				t.Fatalf("%d rows, %v, %d", len(rows), last, e)
			}
			return rowsText(rows)
		}
		want := told()
		work := func(kind, arg, sets int) {
			t.Helper()
			k, _ := x.real.Task(kind, arg)
			for i := 0; ; i++ {
				over, e := k.Step()
				if e != 0 || i > 64 {
					t.Fatalf("task %d = %d in step %d", kind, e, i)
				}
				if over {
					break
				}
				if i == 0 {
					// Rows of all parts change meanwhile.
					for row := range 5 {
						name := api.Set{Col: 1, Cell: text(string(rune('a' + kind)))}
						put(api.Op{Kind: 2, Row: []api.Cell{text(id(row * 1049))}, Sets: []api.Set{name}})
					}
					want = told()
				}
			}
			if x.real.Sets() != sets || x.real.Fresh() != 0 {
				t.Errorf("behind task %d: %d sets, %d fresh", kind, x.real.Sets(), x.real.Fresh())
			}
			if told() != want {
				t.Errorf("behind task %d", kind)
			}
		}
		work(api.TFlush, 0, 2)
		work(api.TMajor, 1, 2)
		work(api.TMajor, 0, 2)
		work(api.TMerge, 10000, 2)
		x.disk.On()
		x.real, _ = tablet.Open(x.disk, x.conf)
		if x.real == nil || told() != want {
			t.Error("opened anew")
		}
	}
}

// TestMany does many batches, scans and tasks soon.
func TestMany(t *testing.T) {
	begin := time.Now()
	conf := confOf(small())
	conf.Seg, conf.Block = 4000, 64
	x := newWorld(t, conf)
	r := rand.New(rand.NewPCG(25, 10))
	done := 0
	for n := range 600 {
		var ops []api.Op
		for id := range int64(20) {
			op := insert(int64(n%200)*20+id, "name")
			if n >= 200 {
				op = []api.Op{op, update(op.Row[0].Int, "other"), remove(op.Row[0].Int)}[r.IntN(3)]
			}
			ops = append(ops, op)
		}
		w, e := x.real.Begin(ops)
		if e != 0 || !w.Lock() || w.Log() != 0 || w.Sync() != 0 {
			t.Fatalf("a batch: %d", e)
		}
		if _, _, e := w.Commit(); e != 0 {
			t.Fatalf("Commit = %d", e)
		}
		if n%40 != 39 {
			continue
		}
		x.real.Mark(x.real.Clean() - 10)
		for _, task := range [][2]int{{api.TFlush, 0}, {api.TDelta, n % 3}, {api.TMajor, n % 4}, {api.TMerge, 2000}, {api.TLog, 0}} {
			k, e := x.real.Task(task[0], task[1])
			for over := false; !over && e == 0; done++ {
				over, e = k.Step()
			}
			if e != 0 {
				t.Fatalf("task %d = %d", task[0], e)
			}
		}
		s, _ := x.real.Scan(api.Spec{Time: -1, Batch: 1, Cols: []int{0}})
		for last := false; !last; {
			_, last, _ = s.Next()
		}
	}
	x.disk.On()
	if _, e := tablet.Open(x.disk, conf); e != 0 {
		t.Errorf("Open = %d", e)
	}
	if took := time.Since(begin); took > time.Minute {
		t.Errorf("%d steps of tasks, and all else, took %v", done, took)
	}
}
