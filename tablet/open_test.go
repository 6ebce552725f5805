package tablet_test

import (
	"bytes"
	"math/rand/v2"
	"slices"
	"strconv"
	"strings"
	"testing"

	"stoa/api"
	"stoa/block"
	"stoa/crc"
	"stoa/delta"
	"stoa/disk"
	"stoa/frame"
	"stoa/meta"
	"stoa/rowset"
	"stoa/tablet"
	"stoa/vint"
	"stoa/wal"
)

// rich does what leaves files of all kinds on the disk: two rowsets, one with two delta files, stories beneath the base, and a log.
func rich(x *world) {
	x.t.Helper()
	x.write(insert(1, "a"), insert(2, "b"), insert(5, "c"))
	x.write(update(1, "d"), remove(2))
	x.work(api.TFlush, 0)
	x.write(update(1, "e"), insert(3, "f"))
	x.work(api.TDelta, 0)
	x.write(insert(2, "g"), remove(5))
	x.work(api.TDelta, 0)
	x.work(api.TFlush, 0)
	x.mark(1)
	x.write(update(3, "h"), insert(9, "i"), insert(5, "j"))
	x.write(update(1, "k"), remove(9))
	same(x, "Sets", x.real.Sets(), 2)
	same(x, "Fresh", x.real.Fresh(), 2)
	for _, name := range []string{"super", "set-000001.redo-002", "set-000002.undo", "wal-000003"} {
		if !hasFile(x.disk, name) {
			x.fail("no file %s", name)
		}
	}
}

// loaded is a disk with just these files, all safe.
func loaded(t *testing.T, files []api.File) *disk.Disk {
	t.Helper()
	d, e := disk.Load(api.MaxRoom, files...)
	if e != 0 {
		t.Fatalf("Load = %d", e)
	}
	return d
}

func wantOpen(t *testing.T, what string, d *disk.Disk, conf api.Conf, want api.Errno) {
	t.Helper()
	x, e := tablet.Open(d, conf)
	if e != want || (x == nil) != (want != 0) {
		t.Errorf("%s: Open = %v, %d, not %d", what, x != nil, e, want)
	}
}

// with is the files, with another one in place of that of its name, or besides.
func with(files []api.File, name string, data []byte) []api.File {
	files = slices.DeleteFunc(slices.Clone(files), func(f api.File) bool { return f.Name == name })
	return append(files, api.File{Name: name, Data: data})
}

func without(files []api.File, name string) []api.File {
	return slices.DeleteFunc(slices.Clone(files), func(f api.File) bool { return f.Name == name })
}

func TestOpenErrors(t *testing.T) {
	x := newWorld(t, confOf(small()))
	rich(x)
	files := x.disk.Files()
	good := confOf(small())
	wantOpen(t, "as it was", loaded(t, files), good, 0)

	bad := good
	bad.Schema.Keys = 0
	off := loaded(t, files)
	off.Off()
	wantOpen(t, "no schema", loaded(t, files), bad, 60)
	wantOpen(t, "no schema, nothing there", disk.New(100), bad, 60)
	wantOpen(t, "no schema, no power", off, bad, 60)
	wantOpen(t, "no power", off, good, 140)
	empty := disk.New(100)
	empty.Off()
	wantOpen(t, "no power, nothing there", empty, good, 140)

	for _, s := range []api.Schema{
		{Keys: 2, Cols: small().Cols},
		{Keys: 1, Cols: small().Cols[:1]},
		{Keys: 1, Cols: append(small().Cols, api.Column{Name: "more", Kind: 1})},
		{Keys: 1, Cols: []api.Column{{Name: "id", Kind: api.KI64}, {Name: "name", Kind: api.KStr}}},
		{Keys: 1, Cols: []api.Column{{Name: "id", Kind: api.KI32}, {Name: "nam", Kind: api.KStr}}},
		{Keys: 1, Cols: []api.Column{{Name: "id", Kind: api.KI32}, {Name: "name", Kind: api.KStr, Null: true}}},
	} {
		other := good
		other.Schema = s
		wantOpen(t, "another schema", loaded(t, files), other, 60)
		// The schema is looked at ahead of what else may be wrong, but for the superblock.
		wantOpen(t, "another schema, a spoilt log", loaded(t, with(files, "wal-000001", make([]byte, 20))), other, 60)
		wantOpen(t, "another schema, no keys", loaded(t, without(files, "set-000001.keys")), other, 60)
		wantOpen(t, "another schema, a spoilt superblock", loaded(t, with(files, "super", make([]byte, 20))), other, 6)
	}
	for _, f := range files {
		if strings.HasPrefix(f.Name, "set-") {
			wantOpen(t, "without "+f.Name, loaded(t, without(files, f.Name)), good, 6)
			wantOpen(t, "short "+f.Name, loaded(t, with(files, f.Name, f.Data[:max(len(f.Data)-1, 0)])), good, map[bool]api.Errno{true: 6, false: 0}[len(f.Data) > 0])
		}
		wantOpen(t, "long "+f.Name, loaded(t, with(files, f.Name, append(bytes.Clone(f.Data), make([]byte, 20)...))), good, 6)
	}
	wantOpen(t, "a spoilt superblock", loaded(t, with(files, "super", nil)), good, 6)

	// What isn't right goes ahead of what is refused.
	d := loaded(t, without(files, "set-000001.keys"))
	d.Plan(api.Fate{Step: 1, Kind: api.FFail}, api.Fate{Step: 2, Kind: api.FFail})
	wantOpen(t, "refused and not right", d, good, 6)
}

// TestOpenOddSets opens superblocks that are right, over rowsets that aren't what they say.
func TestOpenOddSets(t *testing.T) {
	x := newWorld(t, confOf(small()))
	rich(x)
	files := x.disk.Files()
	good := confOf(small())
	super, _, _ := meta.Load(x.disk)
	change := func(do func(m *api.Meta)) []api.File {
		m := super
		m.Sets = slices.Clone(m.Sets)
		do(&m)
		b, e := meta.Encode(m)
		if e != 0 {
			t.Fatalf("Encode = %d", e)
		}
		return with(files, "super", b)
	}
	wantOpen(t, "another number of rows", loaded(t, change(func(m *api.Meta) { m.Sets[0].Rows++ })), good, 6)
	wantOpen(t, "one delta file more", loaded(t, change(func(m *api.Meta) { m.Sets[0].Files++ })), good, 6)
	wantOpen(t, "one rowset more", loaded(t, change(func(m *api.Meta) {
		m.Sets, m.Next = append(m.Sets, api.SetMeta{Id: m.Next, Rows: 1}), m.Next+1
	})), good, 6)
	// The second delta file, with more in it.
	put := func(more func(redo *delta.Delta) api.Errno) []byte {
		redo, e := delta.Decode(small(), dataOf(x.disk, "set-000001.redo-002"))
		if e != 0 || more(redo) != 0 {
			t.Fatalf("Decode = %d", e)
		}
		b, e := redo.Encode(small())
		if e != 0 {
			t.Fatalf("Encode = %d", e)
		}
		return b
	}
	deleted := func(row int) []byte {
		return put(func(redo *delta.Delta) api.Errno {
			return redo.Add(api.Place{Row: row, Time: 1}, api.Change{Time: 1, Kind: api.ODelete})
		})
	}
	rows := super.Sets[0].Rows
	more := deleted(rows - 1)
	wantOpen(t, "a delta of the last row", loaded(t, with(files, "set-000001.redo-002", more)), good, 0)
	wantOpen(t, "a delta of a row that isn't there", loaded(t, with(files, "set-000001.redo-002", deleted(rows))), good, 6)
	wantOpen(t, "a delta of a row far behind", loaded(t, with(files, "set-000001.redo-002", deleted(4095))), good, 6)
	// A third delta file has no changes, or those of the first again.
	third := change(func(m *api.Meta) { m.Sets[0].Files++ })
	wantOpen(t, "a third delta", loaded(t, with(third, "set-000001.redo-003", nil)), good, 0)
	wantOpen(t, "a change twice", loaded(t, with(third, "set-000001.redo-003", dataOf(x.disk, "set-000001.redo-001"))), good, 6)
	wantOpen(t, "files of no rowset", loaded(t, with(with(files, "set-000099.redo-002", more), "set-000001.col-07", more)), good, 0)
}

// logged is a disk with a log of these entries, and nothing else.
func logged(t *testing.T, entries ...api.Entry) *disk.Disk {
	t.Helper()
	d := disk.New(api.MaxRoom)
	log, _, e := wal.Open(d, 100)
	for _, one := range entries {
		if e == 0 {
			e = log.Append(one.Time, one.Body)
		}
	}
	if e != 0 || log.Sync() != 0 {
		t.Fatalf("the log: %d", e)
	}
	return d
}

// TestOpenLog opens logs that were written by hand, as the chapter tells their form.
func TestOpenLog(t *testing.T) {
	key := func(id byte) []byte { return []byte{0x80, 0, 0, id} }
	row := func(id byte, name string) []byte {
		return slices.Concat([]byte{1, 2 * id, 1, byte(len(name))}, []byte(name))
	}
	ins := func(id byte, name string) []byte { return slices.Concat([]byte{1, 4}, key(id), row(id, name)) }
	upd := func(id byte, name string) []byte {
		return slices.Concat([]byte{2, 4}, key(id), []byte{1, 1, 1, byte(len(name))}, []byte(name))
	}
	del := func(id byte) []byte { return slices.Concat([]byte{3, 4}, key(id)) }
	rec := func(ops ...[]byte) []byte {
		return slices.Concat([]byte{1, byte(len(ops))}, slices.Concat(ops...))
	}
	x := &world{t: t, conf: confOf(small()), plain: newPlain(small())}
	x.disk = logged(t,
		api.Entry{Time: 0, Body: rec()},
		api.Entry{Time: 2, Body: rec(ins(7, "x"), ins(3, ""))},
		api.Entry{Time: 4, Body: []byte{2, 2}},
		api.Entry{Time: 5, Body: rec(upd(7, "y"), del(3), ins(4, "z"))},
		api.Entry{Time: 9, Body: rec(del(4))},
		api.Entry{Time: 300, Body: slices.Concat([]byte{2}, vint.Put(299))},
	)
	x.plain.last, x.plain.mark = 300, 299
	x.plain.done = []batch{
		{2, []api.Op{insert(7, "x"), insert(3, "")}},
		{5, []api.Op{update(7, "y"), remove(3), insert(4, "z")}},
		{9, []api.Op{remove(4)}},
	}
	x.reopen()
	x.look()
	same(x, "Fresh", x.real.Fresh(), 3)
	x.write(insert(4, "again"), insert(7, "there"))
	x.check()
	x.twice()

	var many [][]byte
	for id := range byte(64) {
		many = append(many, ins(id, ""))
	}
	wantOpen(t, "as many operations as may be", logged(t, api.Entry{Time: 1, Body: rec(many...)}), x.conf, 0)
	for what, body := range map[string][]byte{
		"no bytes":                       {},
		"an odd kind":                    {0},
		"another odd kind":               {3, 0},
		"no number":                      {1},
		"more behind it":                 {1, 0, 0},
		"too few operations":             slices.Concat([]byte{1, 2}, del(1)),
		"too many operations":            rec(append(many, del(64))...),
		"a number in another form":       {1, 0x80, 0},
		"an odd operation":               rec(slices.Concat([]byte{4, 4}, key(1))),
		"operation 0":                    rec(slices.Concat([]byte{0, 4}, key(1))),
		"a short key":                    rec(slices.Concat([]byte{3, 4}, key(1)[:3])),
		"a key that is none":             rec(slices.Concat([]byte{3, 3}, key(1)[:3])),
		"a key with more":                rec(slices.Concat([]byte{3, 5}, key(1), []byte{0})),
		"a key without a length":         rec([]byte{3}),
		"another row's key":              rec(slices.Concat([]byte{1, 4}, key(2), row(1, "x"))),
		"no row":                         rec(slices.Concat([]byte{1, 4}, key(2))),
		"half a row":                     rec(slices.Concat([]byte{1, 4}, key(2), row(2, "x")[:2])),
		"a null where none may be":       rec(slices.Concat([]byte{1, 4}, key(2), []byte{1, 4, 0})),
		"no sets":                        rec(slices.Concat([]byte{2, 4}, key(2), []byte{0})),
		"a set of the key":               rec(slices.Concat([]byte{2, 4}, key(2), []byte{1, 0, 1, 2})),
		"half a set":                     rec(slices.Concat([]byte{2, 4}, key(2), []byte{1, 1})),
		"a mark without a number":        {2},
		"a mark with more":               {2, 1, 0},
		"a mark that is too late":        slices.Concat([]byte{2}, vint.Put(greatest+1)),
		"a mark in another form":         {2, 0x81, 0},
		"an insert of what is there":     rec(ins(1, "x"), ins(1, "y")),
		"an update behind that, at once": rec(ins(1, "x"), upd(1, "y")),
	} {
		wantOpen(t, what, logged(t, api.Entry{Time: 1, Body: body}), x.conf, 6)
		// Nothing was laid ahead of finding that.
		d := logged(t, api.Entry{Time: 1, Body: body})
		steps := d.Steps()
		tablet.Open(d, x.conf)
		if d.Steps() != steps {
			t.Errorf("%s: %d steps", what, d.Steps()-steps)
		}
	}
	texts := x.conf
	texts.Schema.Cols = slices.Clone(texts.Schema.Cols)
	texts.Schema.Cols[0].Kind = api.KStr
	for n, want := range map[int]api.Errno{0: 0, 199: 0, 200: 6} {
		long := append(bytes.Repeat([]byte("k"), n), 0)
		body := rec(slices.Concat([]byte{3}, vint.Put(uint64(len(long))), long))
		wantOpen(t, "a key of so many letters: "+strconv.Itoa(n), logged(t, api.Entry{Time: 1, Body: body}), texts, want)
	}
	late, e := tablet.Open(logged(t, api.Entry{Time: 1, Body: slices.Concat([]byte{2}, vint.Put(greatest))}), x.conf)
	if e != 0 || late.Floor() != greatest || late.Last() != 1 {
		t.Errorf("the latest mark: %d", e)
	}
}

// TestRecords reads what the tablet has laid into its log.
func TestRecords(t *testing.T) {
	x := newWorld(t, confOf(wide()))
	x.conf.Seg = api.MaxSeg
	var want []api.Entry
	do := func(ops ...api.Op) {
		w := x.begin(ops...)
		for x.goOn(w) {
		}
		b := w.plain.batch()
		want = append(want, api.Entry{Time: b.time, Body: x.plain.record(b)})
	}
	row := []api.Cell{num(-1), text("\x00\xff"), null(), num(1 << 40), num(65535), num(1), text("g"), text("")}
	other := []api.Cell{num(3), text(""), num(5), num(-7), null(), num(0), null(), null()}
	do(api.Op{Kind: 1, Row: row}, api.Op{Kind: 2, Row: []api.Cell{num(9), text("")}, Sets: []api.Set{{Col: 2, Cell: null()}}}, api.Op{Kind: 1, Row: other})
	do(api.Op{Kind: 1, Row: row})
	do(api.Op{Kind: 2, Row: row[:2], Sets: []api.Set{{Col: 2, Cell: num(1)}, {Col: 7, Cell: null()}}}, api.Op{Kind: 3, Row: other[:2]})
	x.tick(200)
	x.mark(150)
	want = append(want, api.Entry{Time: 201, Body: []byte{2, 0x96, 1}})
	do(api.Op{Kind: 3, Row: other[:2]}, api.Op{Kind: 3, Row: row[:2]})
	_, got, e := wal.Open(x.disk, 1)
	if e != 0 || len(got) != len(want) {
		t.Fatalf("%d entries, %d", len(got), e)
	}
	for i, one := range got {
		if one.Time != want[i].Time || !bytes.Equal(one.Body, want[i].Body) {
			t.Errorf("entry %d: %d %x, not %d %x", i, one.Time, one.Body, want[i].Time, want[i].Body)
		}
	}
}

// TestOpenNew looks at what a new tablet lays, and at what an Open takes away.
func TestOpenNew(t *testing.T) {
	x := newWorld(t, confOf(small()))
	x.look()
	same(x, "Sets", x.real.Sets(), 0)
	same(x, "Fresh", x.real.Fresh(), 0)
	super, there, e := meta.Load(x.disk)
	if e != 0 || !there || len(super.Sets) != 0 || super.Last != -1 || super.Mark != 0 || super.Flush != -1 {
		t.Errorf("the superblock: %v %v %d", super, there, e)
	}
	if n := x.disk.Loose(); n != 0 {
		t.Errorf("%d changes of the directory aren't safe", n)
	}
	x.crash()
	same(x, "Sets", x.real.Sets(), 0)

	rich(x)
	files := x.disk.Files()
	left := slices.Clone(files)
	for _, name := range []string{"super.tmp", "set-000001.redo-003", "set-000009.base", "set-000009.redo-001"} {
		left = with(left, name, []byte("x"))
	}
	left = with(left, "other", []byte("x"))
	x.disk = loaded(t, left)
	x.reopen()
	if got, want := x.disk.Files(), with(files, "other", []byte("x")); len(got) != len(want) {
		t.Errorf("%d files are left, not %d", len(got), len(want))
	}
	x.check()
}

// TestOpenRefused breaks Opens off at every step.
func TestOpenRefused(t *testing.T) {
	x := newWorld(t, confOf(small()))
	rich(x)
	rest := with(with(x.disk.Files(), "super.tmp", nil), "set-000009.base", nil)
	for what, files := range map[string][]api.File{"new": nil, "rich": rest} {
		for kind := 1; kind <= 4; kind++ {
			for step := 1; ; step++ {
				d := loaded(t, files)
				d.Plan(api.Fate{Step: step, Kind: kind})
				real, e := tablet.Open(d, x.conf)
				if d.Steps() < step {
					if e != 0 || step == 1 {
						t.Errorf("%s: Open = %d in %d steps", what, e, d.Steps())
					}
					break
				}
				if want := []api.Errno{0, 141, 142, 140, 140}[kind]; e != want || real != nil || d.Steps() != step {
					t.Errorf("%s: step %d, fate %d: Open = %v, %d behind %d steps", what, step, kind, real != nil, e, d.Steps())
				}
				if kind > 2 {
					d.On(step % 3)
				}
				wantOpen(t, what, d, x.conf, 0)
				if files == nil {
					continue
				}
				y := &world{t: t, disk: d, conf: x.conf, plain: x.plain}
				y.reopen()
			}
		}
	}
}

// TestOpenFilesByHand opens a superblock, a rowset, a delta file and a log that were made by the layers below.
func TestOpenFilesByHand(t *testing.T) {
	conf := confOf(small())
	key := func(id byte) []byte { return []byte{0x80, 0, 0, id} }
	row := func(id int64, name string) []api.Cell { return []api.Cell{num(id), text(name)} }
	set := func(name string) []api.Set { return []api.Set{{Col: 1, Cell: text(name)}} }
	files, e := rowset.Build(small(), 6, 2, 2,
		api.History{Key: key(1), Changes: []api.Change{{Time: 3, Kind: 1, Row: row(1, "a")}, {Time: 5, Kind: 2, Sets: set("b")}}},
		api.History{Key: key(2), Changes: []api.Change{{Time: 1, Kind: 1, Row: row(2, "c")}, {Time: 4, Kind: 3}}},
		api.History{Key: key(3), Changes: []api.Change{{Time: 1, Kind: 1, Row: row(3, "d")}}})
	if e != 0 {
		t.Fatalf("Build = %d", e)
	}
	redo := delta.New()
	redo.Add(api.Place{Row: 0, Time: 8}, api.Change{Time: 8, Kind: 2, Sets: set("e")})
	redo.Add(api.Place{Row: 1, Time: 9}, api.Change{Time: 9, Kind: 1, Row: row(2, "m")})
	b, _ := redo.Encode(small())
	files = append(files, api.File{Name: "redo-001", Data: b})
	d := disk.New(api.MaxRoom)
	for _, f := range files {
		name, _ := meta.Name(4, f.Name)
		if d.Create(name) != 0 || d.Append(name, f.Data) != 0 {
			t.Fatal("a file")
		}
	}
	// The last flush may tell less than the rowset, whose files have all up to 9.
	for _, flush := range []int64{-1, 0, 2, 6, 8, 9} {
		m := api.Meta{Gen: 1, Next: 5, Flush: flush, Last: 12, Mark: 2, Schema: small(), Sets: []api.SetMeta{{Id: 4, Rows: 3, Cover: 9, Files: 1}}}
		if e := meta.Save(d, m); e != 0 {
			t.Fatalf("Save = %d", e)
		}
		p := newPlain(small())
		p.done = []batch{
			{1, []api.Op{insert(2, "c"), insert(3, "d")}},
			{3, []api.Op{insert(1, "a")}},
			{4, []api.Op{remove(2)}},
			{5, []api.Op{update(1, "b")}},
			{8, []api.Op{update(1, "e")}},
			{9, []api.Op{insert(2, "m")}},
			{10, []api.Op{update(1, "f"), insert(5, "g"), remove(2)}},
			{11, []api.Op{remove(3), update(5, "h")}},
		}
		p.last, p.mark = 12, 2
		x := &world{t: t, disk: loaded(t, d.Files()), conf: conf, plain: p}
		log, _, _ := wal.Open(x.disk, 100)
		for _, b := range p.done {
			if log.Append(b.time, p.record(b)) != 0 {
				t.Fatal("Append")
			}
		}
		x.reopen()
		x.look()
		same(x, "Fresh", x.real.Fresh(), 1)
		same(x, "Sets", x.real.Sets(), 1)
		x.write(insert(2, "i"), insert(3, "j"), update(1, "k"), insert(1, "there"))
		x.write(update(5, "l"))
		for _, kind := range []int{api.TDelta, api.TMajor, api.TFlush, api.TLog} {
			x.work(kind, 0)
			x.check()
		}
		x.work(api.TMerge, 100)
		x.twice()
	}
}

// saved is a disk with a superblock over files.
func saved(t *testing.T, m api.Meta, files []api.File) *disk.Disk {
	t.Helper()
	b, e := meta.Encode(m)
	if e != 0 {
		t.Fatalf("Encode = %d", e)
	}
	return loaded(t, with(files, "super", b))
}

// TestLastNumbers goes to the end of all numbers of rowsets, and of superblocks.
func TestLastNumbers(t *testing.T) {
	x := &world{t: t, conf: confOf(small()), plain: newPlain(small())}
	x.disk = saved(t, api.Meta{Gen: greatest, Next: 999998, Flush: -1, Last: -1, Schema: small()}, nil)
	x.reopen()
	for id := range int64(2) {
		x.write(insert(id, "a"))
		x.work(api.TFlush, 0)
	}
	if !hasFile(x.disk, "set-999999.base") {
		t.Error("the last number wasn't used")
	}
	x.write(insert(5, "b"), update(1, "c"))
	steps := x.disk.Steps()
	for _, kind := range []int{api.TFlush, api.TMajor} {
		k, _ := x.real.Task(kind, 0)
		if over, e := k.Step(); over || e != 142 {
			t.Errorf("task %d behind the last number = %v, %d", kind, over, e)
		}
		if _, e := k.Step(); e != 261 {
			t.Errorf("a step behind that = %d", e)
		}
	}
	same(x, "steps", x.disk.Steps(), steps)
	same(x, "Sets", x.real.Sets(), 2)
	same(x, "Fresh", x.real.Fresh(), 1)
	x.work(api.TDelta, 1)
	x.work(api.TLog, 0)
	x.check()
	x.twice()
	x.tidy()
}

// TestOddLives merges rowsets that tell two lives of one row at one time, as no tablet lays them.
func TestOddLives(t *testing.T) {
	files, e := rowset.Build(small(), 5, 0, 2, api.History{Key: []byte{0x80, 0, 0, 1}, Changes: []api.Change{{Time: 3, Kind: 1, Row: []api.Cell{num(1), text("a")}}}})
	if e != 0 {
		t.Fatalf("Build = %d", e)
	}
	var all []api.File
	m := api.Meta{Gen: 1, Next: 3, Flush: 5, Last: 5, Schema: small()}
	for id := 1; id <= 2; id++ {
		for _, f := range files {
			name, _ := meta.Name(id, f.Name)
			all = append(all, api.File{Name: name, Data: f.Data})
		}
		m.Sets = append(m.Sets, api.SetMeta{Id: id, Rows: 1, Cover: 5})
	}
	x, e := tablet.Open(saved(t, m, all), confOf(small()))
	if e != 0 {
		t.Fatalf("Open = %d", e)
	}
	k, _ := x.Task(api.TMerge, 9)
	if over, e := k.Step(); over || e != 6 || x.Sets() != 2 {
		t.Errorf("a merge = %v, %d", over, e)
	}
	if over, e := k.Step(); over || e != 261 {
		t.Errorf("a step behind that = %v, %d", over, e)
	}
	// The rows are held no more.
	k, _ = x.Task(api.TMajor, 0)
	for range 20 {
		k.Step()
	}
	if _, e := k.Step(); e != 261 {
		t.Errorf("a major = %d", e)
	}
}

// TestOddNumbers opens superblocks that are right, with numbers that no tablet saves: every call is to end, and none to panic.
func TestOddNumbers(t *testing.T) {
	x := newWorld(t, confOf(small()))
	rich(x)
	super, _, _ := meta.Load(x.disk)
	r := rand.New(rand.NewPCG(25, 9))
	any := func(least int64) int64 {
		return max(least, []int64{-1, 0, 1, 2, 3, 5, 8, 12, 100, greatest - 1, greatest}[r.IntN(11)])
	}
	opened := 0
	for range 3000 {
		m := super
		m.Sets = slices.Clone(m.Sets)
		m.Flush, m.Mark, m.Last = any(-1), any(0), any(-1)
		for i := range m.Sets {
			m.Sets[i].Cover = any(0)
			m.Sets[i].Files = r.IntN(m.Sets[i].Files + 1)
		}
		real, e := tablet.Open(saved(t, m, x.disk.Files()), x.conf)
		if e != 0 {
			if e != 6 {
				t.Errorf("Open = %d", e)
			}
			continue
		}
		opened++
		for range 12 {
			if k, e := real.Task(1+r.IntN(5), r.IntN(3)*20); e == 0 {
				steps := 0
				for over := false; !over && e == 0; steps++ {
					over, e = k.Step()
				}
				if steps > 64 || e != 0 && e != 6 && e != 1 && e != 142 {
					t.Errorf("%d steps, %d", steps, e)
				}
			}
			if w, e := real.Begin(anyOps(r, small())); e == 0 && w.Lock() && w.Log() == 0 && w.Sync() == 0 {
				w.Commit()
			}
			if s, e := real.Scan(api.Spec{Time: any(-1), Batch: 3, Cols: []int{1}}); e == 0 {
				for last := false; !last && e == 0; {
					_, last, e = s.Next()
				}
			}
			real.Mark(any(0))
			real.Tick(any(0))
		}
	}
	if opened < 1000 {
		t.Errorf("only %d were opened", opened)
	}
}

// TestKeysThatFall opens a rowset whose keys are under their sums, and don't rise, as no tablet lays them.
func TestKeysThatFall(t *testing.T) {
	x := newWorld(t, confOf(small()))
	x.write(insert(1, "a"), insert(2, "b"))
	x.work(api.TFlush, 0)
	keysFile := func(first, second byte) []byte {
		a, b := []byte{0x80, 0, 0, first}, []byte{0x80, 0, 0, second}
		_, cells, e := block.Best(api.KBytes, api.Cell{B: a}, api.Cell{B: b})
		if e != 0 {
			t.Fatalf("Best = %d", e)
		}
		body := slices.Concat([]byte{api.KBytes, 1, 2, 2, 1}, vint.Put(uint64(len(cells))), []byte{4}, a)
		footer, e := frame.Put(1, body)
		if e != 0 {
			t.Fatalf("Put = %d", e)
		}
		return slices.Concat(cells, footer, crc.Seal([]byte{byte(len(cells)), 0, 0, 0}))
	}
	files := x.disk.Files()
	wantOpen(t, "keys by hand", loaded(t, with(files, "set-000001.keys", keysFile(1, 2))), x.conf, 0)
	wantOpen(t, "keys that fall", loaded(t, with(files, "set-000001.keys", keysFile(2, 1))), x.conf, 6)
}
