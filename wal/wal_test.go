package wal_test

import (
	"bytes"
	"hash/crc32"
	"math"
	"math/rand/v2"
	"slices"
	"strconv"
	"strings"
	"testing"

	"stoa/api"
	"stoa/disk"
	"stoa/wal"
)

// The helpers beneath say in the plainest way what the chapter says; each plain log has a disk of its own, on which the same is done.

// plainPut divides by 128 until nothing is left.
func plainPut(u uint64) string {
	var b []byte
	for ; u >= 128; u /= 128 {
		b = append(b, byte(u%128)+128)
	}
	return string(append(b, byte(u)))
}

// sealed is b with the library's sum behind.
func sealed(b string) string {
	sum := crc32.Checksum([]byte(b), crc32.MakeTable(crc32.Castagnoli))
	return b + string([]byte{byte(sum), byte(sum >> 8), byte(sum >> 16), byte(sum >> 24)})
}

// framed is a frame of any kind, length and body, under right sums.
func framed(kind byte, n int, body string) string {
	return sealed(string([]byte{kind, byte(n), byte(n >> 8), byte(n >> 16), byte(n >> 24)})) + sealed(body)
}

func entryOf(time uint64, body string) string {
	b := plainPut(time) + body
	return framed(1, len(b), b)
}

// plainScan reads a segment: its entries, and whether it is torn; false for one that is spoilt.
func plainScan(s string, last int64) (entries []api.Entry, torn, ok bool) {
	for s != "" {
		if len(s) < 9 {
			return entries, true, true
		}
		if sealed(s[:5]) != s[:9] || s[0] == 0 {
			return nil, false, false
		}
		n := int(s[1]) + 256*int(s[2]) + 65536*int(s[3]) + 16777216*int(s[4])
		if n > 65536 {
			return nil, false, false
		}
		if len(s) < n+13 {
			return entries, true, true
		}
		kind, body, sum := s[0], s[9:9+n], s[9:13+n]
		s = s[n+13:]
		time, rest, right := plainTime(body)
		if sealed(body) != sum || kind != 1 || !right || time <= last {
			return nil, false, false
		}
		last = time
		entries = append(entries, api.Entry{Time: time, Body: []byte(rest)})
	}
	return entries, false, true
}

// plainTime takes a time from the beginning of b: of the only form, and not above 2 to the 40th.
func plainTime(b string) (int64, string, bool) {
	time := int64(0)
	for i := 0; i < len(b) && i < 6; i++ {
		time += int64(b[i]%128) << (7 * i)
		if b[i] < 128 {
			return time, b[i+1:], (b[i] > 0 || i == 0) && time <= 1099511627776
		}
	}
	return 0, "", false
}

func isSegment(name string) bool {
	return len(name) == 10 && name[:4] == "wal-" && strings.Trim(name[4:], "0123456789") == "" && name[4:] != "000000"
}

func segmentName(n int) string {
	digits := strconv.Itoa(n)
	return "wal-" + strings.Repeat("0", 6-len(digits)) + digits
}

type plainSegment struct {
	name  string
	times []int64
	mine  bool
}

type plain struct {
	d    *disk.Disk
	seg  int
	segs []plainSegment
	most int
	last int64
	dead bool
}

func plainOpen(d *disk.Disk, seg int) (*plain, []api.Entry, api.Errno) {
	if !d.Power() {
		return nil, nil, api.ErrPower
	}
	if seg < 1 {
		seg = 1
	}
	if seg > 1048576 {
		seg = 1048576
	}
	p := &plain{d: d, seg: seg, last: -1}
	var all []api.Entry
	for _, f := range d.Files() {
		if !isSegment(f.Name) {
			continue
		}
		entries, _, ok := plainScan(string(f.Data), p.last)
		if !ok {
			return nil, nil, api.ErrCorrupt
		}
		s := plainSegment{name: f.Name}
		for _, e := range entries {
			s.times = append(s.times, e.Time)
			p.last = e.Time
		}
		p.segs = append(p.segs, s)
		all = append(all, entries...)
		p.most, _ = strconv.Atoi(strings.TrimLeft(f.Name[4:], "0"))
	}
	return p, all, api.OK
}

// mine is the place of the last segment that this log has made, or -1.
func (p *plain) mine() int {
	for i := len(p.segs) - 1; i >= 0; i-- {
		if p.segs[i].mine {
			return i
		}
	}
	return -1
}

// did keeps what a step has answered.
func (p *plain) did(e api.Errno) bool {
	p.dead = p.dead || e != api.OK
	return e == api.OK
}

func (p *plain) append(time int64, body string) api.Errno {
	switch {
	case p.dead:
		return api.ErrLog
	case time < 0 || time > 1099511627776 || time <= p.last:
		return api.ErrArg
	case len(plainPut(uint64(time)))+len(body) > 65536:
		return api.ErrLong
	}
	b := entryOf(uint64(time), body)
	i := p.mine()
	if i >= 0 {
		size, _ := p.d.Size(p.segs[i].name)
		if size > 0 && size+len(b) > p.seg {
			i = -1
		}
	}
	if i < 0 {
		if p.most+1 > 999999 {
			return api.ErrFull
		}
		if e := p.next(); e != api.OK {
			return e
		}
		i = p.mine()
	}
	e := p.d.Append(p.segs[i].name, []byte(b))
	if p.did(e) {
		p.segs[i].times = append(p.segs[i].times, time)
		p.last = time
	}
	return e
}

func (p *plain) next() api.Errno {
	if e := p.sync(); e != api.OK {
		return e
	}
	name := segmentName(p.most + 1)
	if e := p.d.Create(name); !p.did(e) {
		return e
	}
	if e := p.d.SyncDir(); !p.did(e) {
		return e
	}
	p.most++
	p.segs = append(p.segs, plainSegment{name: name, mine: true})
	return api.OK
}

func (p *plain) sync() api.Errno {
	if p.dead {
		return api.ErrLog
	}
	i := p.mine()
	if i < 0 {
		return api.OK
	}
	e := p.d.Sync(p.segs[i].name)
	p.did(e)
	return e
}

func (p *plain) drop(time int64) (int, api.Errno) {
	if p.dead {
		return 0, api.ErrLog
	}
	n := 0
	for len(p.segs) > 0 && p.mine() != 0 {
		for _, other := range p.segs[0].times {
			if other > time {
				return n, p.dropped(n)
			}
		}
		if e := p.d.Remove(p.segs[0].name); !p.did(e) {
			return n, e
		}
		p.segs = p.segs[1:]
		n++
	}
	return n, p.dropped(n)
}

func (p *plain) dropped(n int) api.Errno {
	if n == 0 {
		return api.OK
	}
	e := p.d.SyncDir()
	p.did(e)
	return e
}

// A pair is a log and the plain one, each over its disk.
type pair struct {
	d   *disk.Disk
	l   *wal.Log
	p   *plain
	seg int
}

// A call is one of a log, or one of its disk.
type call struct {
	name  string
	time  int64
	body  string
	keeps []int
	fate  api.Fate // its step is counted from now
}

func sameEntries(x, y []api.Entry) bool {
	return slices.EqualFunc(x, y, func(a, b api.Entry) bool {
		return a.Time == b.Time && bytes.Equal(a.Body, b.Body)
	})
}

func sameFiles(x, y []api.File) bool {
	return slices.EqualFunc(x, y, func(a, b api.File) bool {
		return a.Name == b.Name && bytes.Equal(a.Data, b.Data)
	})
}

// short keeps what is told of long lists short.
func short[T any](list []T) []T {
	return list[:min(len(list), 40)]
}

// loaded is a pair over disks with these files, opened; both logs are nil, if there is an error.
func loaded(t *testing.T, seg int, files ...api.File) *pair {
	t.Helper()
	d, e := disk.Load(api.MaxRoom, files...)
	other, _ := disk.Load(api.MaxRoom, files...)
	if e != api.OK {
		t.Fatalf("Load = %d", e)
	}
	x := &pair{d: d, seg: seg, p: &plain{d: other}}
	x.open(t)
	return x
}

// open opens both logs anew.
func (x *pair) open(t *testing.T) []api.Entry {
	t.Helper()
	steps, files := x.d.Steps(), x.d.Files()
	other := x.p.d
	l, entries, e := wal.Open(x.d, x.seg)
	p, want, wantErr := plainOpen(other, x.seg)
	if !sameEntries(entries, want) || e != wantErr || (l == nil) != (p == nil) {
		t.Errorf("Open = %v, %d; want %v, %d", short(entries), e, short(want), wantErr)
	}
	if e != api.OK && (l != nil || entries != nil) {
		t.Errorf("Open answers %v and %v beside %d", l, short(entries), e)
	}
	if x.d.Steps() != steps || !sameFiles(x.d.Files(), files) {
		t.Errorf("Open has made %d steps", x.d.Steps()-steps)
	}
	x.l, x.p = l, p
	if p == nil {
		x.p = &plain{d: other}
		return nil
	}
	x.same(t)
	return entries
}

// same holds what the logs tell, and their disks, against each other.
func (x *pair) same(t *testing.T) {
	t.Helper()
	if x.l != nil && (x.l.Last() != x.p.last || x.l.Segs() != len(x.p.segs) || x.l.Dead() != x.p.dead) {
		t.Errorf("last %d, %d segments, dead %t; want %d, %d, %t", x.l.Last(), x.l.Segs(), x.l.Dead(), x.p.last, len(x.p.segs), x.p.dead)
	}
	d, other := x.d, x.p.d
	if d.Power() != other.Power() || d.Steps() != other.Steps() || d.Loose() != other.Loose() {
		t.Errorf("power %t, %d steps, %d loose; want %t, %d, %d", d.Power(), d.Steps(), d.Loose(), other.Power(), other.Steps(), other.Loose())
	}
	if got, want := d.Files(), other.Files(); !sameFiles(got, want) {
		t.Errorf("files: %.200q; want %.200q", got, want)
	}
	if got, want := d.Safe(), other.Safe(); !sameFiles(got, want) {
		t.Errorf("safe: %.200q; want %.200q", got, want)
	}
}

// carry does a call on both.
func (x *pair) carry(t *testing.T, c call) api.Errno {
	t.Helper()
	var n, wantN int
	var e, want api.Errno
	switch c.name {
	case "Append":
		e, want = x.l.Append(c.time, []byte(c.body)), x.p.append(c.time, c.body)
	case "Sync":
		e, want = x.l.Sync(), x.p.sync()
	case "Drop":
		n, e = x.l.Drop(c.time)
		wantN, want = x.p.drop(c.time)
	case "Open":
		x.open(t)
	case "Plan":
		c.fate.Step += x.d.Steps()
		x.d.Plan(c.fate)
		x.p.d.Plan(c.fate)
	case "Off":
		x.d.Off()
		x.p.d.Off()
	case "Crash":
		x.d.On(c.keeps...)
		x.p.d.On(c.keeps...)
		x.open(t)
	default:
		t.Fatalf("no such call: %s", c.name)
	}
	if n != wantN || e != want {
		t.Errorf("%.60v = %d, %d; want %d, %d", c, n, e, wantN, want)
	}
	x.same(t)
	return e
}

func (x *pair) append(t *testing.T, time int64, body string) api.Errno {
	t.Helper()
	return x.carry(t, call{name: "Append", time: time, body: body})
}

func (x *pair) do(t *testing.T, name string) api.Errno {
	t.Helper()
	return x.carry(t, call{name: name})
}

func (x *pair) drop(t *testing.T, time int64) api.Errno {
	t.Helper()
	return x.carry(t, call{name: "Drop", time: time})
}

func (x *pair) plan(t *testing.T, step, kind, n int) {
	t.Helper()
	x.carry(t, call{name: "Plan", fate: api.Fate{Step: step, Kind: kind, N: n}})
}

func want(t *testing.T, what string, e, wantErr api.Errno) {
	t.Helper()
	if e != wantErr {
		t.Errorf("%s = %d; want %d", what, e, wantErr)
	}
}

// wantLog holds a log against these numbers.
func wantLog(t *testing.T, l *wal.Log, last int64, segs int, dead bool) {
	t.Helper()
	if l.Last() != last || l.Segs() != segs || l.Dead() != dead {
		t.Errorf("last %d, %d segments, dead %t; want %d, %d, %t", l.Last(), l.Segs(), l.Dead(), last, segs, dead)
	}
}

// wantFiles holds all files against these names and bytes, one behind the other.
func wantFiles(t *testing.T, what string, files []api.File, want ...string) {
	t.Helper()
	var got []string
	for _, f := range files {
		got = append(got, f.Name, string(f.Data))
	}
	if !slices.Equal(got, want) {
		t.Errorf("%s: %q; want %q", what, got, want)
	}
}

// wantFound: the log has just these entries, told as a text: times and bodies.
func wantFound(t *testing.T, what string, d *disk.Disk, want string) *wal.Log {
	t.Helper()
	l, entries, e := wal.Open(d, 100)
	var got []string
	for _, entry := range entries {
		got = append(got, strconv.FormatInt(entry.Time, 10)+string(entry.Body))
	}
	if strings.Join(got, " ") != want || e != api.OK {
		t.Errorf("%s: %q, %d; want %q", what, got, e, want)
	}
	return l
}

func file(name string, parts ...string) api.File {
	return api.File{Name: name, Data: []byte(strings.Join(parts, ""))}
}

// P16.1: the chapter's examples.
func TestExamples(t *testing.T) {
	d := disk.New(1000)
	l, entries, e := wal.Open(d, 1000)
	if len(entries) != 0 || e != api.OK {
		t.Fatalf("Open = %v, %d", entries, e)
	}
	wantLog(t, l, -1, 0, false)
	want(t, "Append", l.Append(5, []byte("ab")), api.OK)
	if d.Steps() != 3 || d.Loose() != 0 {
		t.Errorf("%d steps, %d loose", d.Steps(), d.Loose())
	}
	frame := "\x01\x03\x00\x00\x00" + sealed("\x01\x03\x00\x00\x00")[5:] + sealed("\x05ab")
	wantFiles(t, "files", d.Files(), "wal-000001", frame)
	wantFiles(t, "safe", d.Safe(), "wal-000001", "")
	want(t, "Sync", l.Sync(), api.OK)
	if d.Steps() != 4 {
		t.Errorf("%d steps", d.Steps())
	}
	wantFiles(t, "safe", d.Safe(), "wal-000001", frame)
	want(t, "Append", l.Append(5, []byte("x")), api.ErrArg)
	wantLog(t, l, 5, 1, false)

	d.On()
	l = wantFound(t, "behind On", d, "5ab")
	wantLog(t, l, 5, 1, false)
	want(t, "Append", l.Append(6, nil), api.OK)
	wantFiles(t, "files", d.Files(), "wal-000001", frame, "wal-000002", entryOf(6, ""))
	wantLog(t, l, 6, 2, false)

	for i := range len(frame) {
		d.Flip(0, i, 1)
		if l, entries, e := wal.Open(d, 100); l != nil || entries != nil || e != api.ErrCorrupt {
			t.Errorf("byte %d turned: %v, %v, %d", i, l, entries, e)
		}
		d.Flip(0, i, 1)
	}
}

// P16.1: just which steps each call makes, told by which one fails.
func TestSteps(t *testing.T) {
	for _, x := range []struct {
		what  string
		steps string
		begin func(x *pair)
		do    func(x *pair) api.Errno
	}{
		{"Append, the first", "CDA", func(x *pair) {}, func(x *pair) api.Errno { return x.append(t, 5, "ab") }},
		{"Append behind it", "A", func(x *pair) { x.append(t, 5, "ab") }, func(x *pair) api.Errno { return x.append(t, 6, "cd") }},
		{"Append to the next segment", "SCDA", func(x *pair) { x.append(t, 5, "ab") }, func(x *pair) api.Errno { return x.append(t, 6, "a long one, so that the bound is passed") }},
		{"Append behind a crash", "CDA", func(x *pair) { x.append(t, 5, "ab"); x.do(t, "Crash") }, func(x *pair) api.Errno { return x.append(t, 6, "cd") }},
		{"Sync of nothing", "", func(x *pair) {}, func(x *pair) api.Errno { return x.do(t, "Sync") }},
		{"Sync", "S", func(x *pair) { x.append(t, 5, "ab") }, func(x *pair) api.Errno { return x.do(t, "Sync") }},
		{"Sync again", "S", func(x *pair) { x.append(t, 5, "ab"); x.do(t, "Sync") }, func(x *pair) api.Errno { return x.do(t, "Sync") }},
		{"Sync of what was found", "", func(x *pair) { x.append(t, 5, "ab"); x.do(t, "Crash") }, func(x *pair) api.Errno { return x.do(t, "Sync") }},
		{"Drop of nothing", "", func(x *pair) { x.append(t, 5, "ab") }, func(x *pair) api.Errno { return x.drop(t, 9) }},
		{"Drop of one", "RD", func(x *pair) { x.append(t, 5, "ab"); x.do(t, "Crash") }, func(x *pair) api.Errno { return x.drop(t, 5) }},
		{"Drop of two", "RRD", func(x *pair) { x.append(t, 5, "ab"); x.do(t, "Crash"); x.append(t, 6, ""); x.do(t, "Crash") }, func(x *pair) api.Errno { return x.drop(t, 9) }},
		{"refused", "", func(x *pair) { x.append(t, 5, "ab") }, func(x *pair) api.Errno { x.append(t, 5, ""); return x.append(t, 9, strings.Repeat("x", 65536)) }},
	} {
		for step := 0; step <= len(x.steps)+1; step++ {
			for kind := 1; kind <= 4; kind++ {
				for _, n := range []int{0, 3, 1000} {
					y := loaded(t, 40)
					x.begin(y)
					before := y.d.Steps()
					y.plan(t, step, kind, n)
					e := x.do(y)
					if t.Failed() {
						t.Fatalf("%s, fate %d at step %d", x.what, kind, step)
					}
					hit := step >= 1 && step <= len(x.steps)
					if y.l.Dead() != hit || hit && e != []api.Errno{0, api.ErrDisk, api.ErrFull, api.ErrPower, api.ErrPower}[kind] {
						t.Errorf("%s, fate %d at step %d: %d, dead %t", x.what, kind, step, e, y.l.Dead())
					}
					steps := len(x.steps)
					if hit {
						steps = step
					}
					if y.d.Steps()-before != steps {
						t.Errorf("%s, fate %d at step %d: %d steps", x.what, kind, step, y.d.Steps()-before)
					}
					// The dead one takes no more steps.
					if hit {
						want(t, "Append", y.append(t, 90, ""), api.ErrLog)
						want(t, "Append", y.append(t, -1, ""), api.ErrLog)
						want(t, "Sync", y.do(t, "Sync"), api.ErrLog)
						want(t, "Drop", y.drop(t, 90), api.ErrLog)
						y.carry(t, call{name: "Crash", keeps: []int{1, 2, 30}})
					}
					y.append(t, 91, "behind")
					y.do(t, "Crash")
				}
			}
		}
	}
}

// P16.1: which steps those are, by what each of them leaves: behind it the power goes.
func TestKindsOfSteps(t *testing.T) {
	a, b, c, e := entryOf(1, "a"), entryOf(2, "bb"), entryOf(3, "c"), entryOf(4, "dddd")
	found := []api.File{file("wal-000001", a), file("wal-000002", b)}
	left := func(step int, do func(l *wal.Log) api.Errno, loose int, files, safe []string) {
		t.Helper()
		d, _ := disk.Load(1000, found...)
		l, _, err := wal.Open(d, 20)
		want(t, "Open", err, api.OK)
		want(t, "Append", l.Append(3, []byte("c")), api.OK)
		d.Plan(api.Fate{Step: d.Steps() + step, Kind: api.FBehind})
		want(t, "the call", do(l), api.ErrPower)
		wantFiles(t, "files", d.Files(), files...)
		wantFiles(t, "safe", d.Safe(), safe...)
		if d.Loose() != loose {
			t.Errorf("%d loose; want %d", d.Loose(), loose)
		}
	}
	with := func(more ...string) []string {
		return append([]string{"wal-000001", a, "wal-000002", b, "wal-000003"}, more...)
	}
	next := func(l *wal.Log) api.Errno { return l.Append(4, []byte("dddd")) }
	left(1, next, 0, with(c), with(c))
	left(2, next, 1, with(c, "wal-000004", ""), with(c))
	left(3, next, 0, with(c, "wal-000004", ""), with(c, "wal-000004", ""))
	left(4, next, 0, with(c, "wal-000004", e), with(c, "wal-000004", ""))
	left(1, (*wal.Log).Sync, 0, with(c), with(c))
	drop := func(l *wal.Log) api.Errno {
		_, err := l.Drop(9)
		return err
	}
	left(1, drop, 1, with(c)[2:], with(""))
	left(2, drop, 2, with(c)[4:], with(""))
	left(3, drop, 0, with(c)[4:], with("")[4:])
}

// P16.1: what Append refuses, in its order; a call that is refused changes nothing.
func TestAppendErrors(t *testing.T) {
	long := strings.Repeat("x", 65540)
	for _, x := range []struct {
		time int64
		size int
		want api.Errno
	}{
		{-1, 0, api.ErrArg}, {-2, 0, api.ErrArg}, {math.MinInt64, 0, api.ErrArg}, {math.MinInt64 + 6, 0, api.ErrArg}, {0, 0, api.ErrArg}, {4, 0, api.ErrArg}, {5, 0, api.ErrArg},
		{1099511627777, 0, api.ErrArg}, {1099511627778, 0, api.ErrArg}, {1 << 62, 0, api.ErrArg}, {math.MaxInt64, 0, api.ErrArg},
		{5, 65540, api.ErrArg}, {-1, 65540, api.ErrArg}, {math.MaxInt64, 65540, api.ErrArg},
		{6, 65535, api.OK}, {6, 65536, api.ErrLong}, {6, 65540, api.ErrLong}, {127, 65535, api.OK}, {128, 65535, api.ErrLong}, {128, 65534, api.OK}, {16383, 65534, api.OK}, {16384, 65534, api.ErrLong},
		{1099511627776, 65530, api.OK}, {1099511627776, 65531, api.ErrLong}, {1099511627776, 0, api.OK}, {1099511627775, 0, api.OK}, {6, 0, api.OK},
	} {
		for _, begin := range []string{"Sync", "Crash"} {
			y := loaded(t, 1000)
			y.append(t, 5, "ab")
			y.do(t, "Sync")
			y.do(t, begin)
			steps := y.d.Steps()
			want(t, "Append at "+strconv.FormatInt(x.time, 10), y.append(t, x.time, long[:x.size]), x.want)
			if x.want != api.OK && y.d.Steps() != steps {
				t.Errorf("%d steps", y.d.Steps()-steps)
			}
			if x.want != api.OK {
				wantLog(t, y.l, 5, 1, false)
				want(t, "Append", y.append(t, 6, ""), api.OK)
			}
			y.do(t, "Sync")
			y.do(t, "Crash")
		}
	}
	y := loaded(t, 1000)
	want(t, "Append at -1", y.append(t, -1, ""), api.ErrArg)
	want(t, "Append at 0", y.append(t, 0, ""), api.OK)
	want(t, "Append at 0 again", y.append(t, 0, ""), api.ErrArg)
	want(t, "Append at 1", y.append(t, 1, ""), api.OK)
	want(t, "Append at most", y.append(t, 1<<40, ""), api.OK)
	want(t, "Append behind", y.append(t, 1<<40, ""), api.ErrArg)
	want(t, "Append behind", y.append(t, 1<<40+1, ""), api.ErrArg)
	y.do(t, "Sync")
	y.do(t, "Crash")
	wantLog(t, y.l, 1<<40, 1, false)
	want(t, "Append behind", y.append(t, 1<<40, ""), api.ErrArg)
}

// P16.1: bounds of a segment's bytes about the sizes of its entries.
func TestSegmentBound(t *testing.T) {
	for _, seg := range []int{math.MinInt, -1, 0, 1, 2, 13, 14, 15, 16, 29, 30, 31, 32, 44, 45, 46, 47, 60, 61, 1000} {
		y := loaded(t, seg)
		for i, body := range []string{"a", "b", "", "cc", "ddddddddddddddddddddddddddddddddd", "e", "f", "", "", "", "g"} {
			want(t, "Append", y.append(t, int64(i), body), api.OK)
		}
		y.do(t, "Sync")
		y.do(t, "Crash")
		y.append(t, 100, "")
		y.append(t, 101, "")
		for _, f := range y.d.Files() {
			if entries, torn, ok := plainScan(string(f.Data), -1); len(f.Data) > max(seg, 1) && len(entries) != 1 || torn || !ok {
				t.Errorf("a segment of %d bytes, %d entries, bound %d", len(f.Data), len(entries), seg)
			}
		}
	}
	// Two entries of 15 bytes.
	for _, x := range []struct{ seg, want int }{{29, 2}, {30, 1}, {31, 1}, {15, 2}, {1, 2}, {0, 2}, {-7, 2}} {
		y := loaded(t, x.seg)
		y.append(t, 1, "a")
		y.append(t, 2, "b")
		wantLog(t, y.l, 2, x.want, false)
	}
}

// P16.1: a bound above the greatest counts as that one.
func TestGreatestBound(t *testing.T) {
	body := strings.Repeat("x", 65535)
	for _, seg := range []int{1048575, 1048576, 1048577, 1 << 32, 1<<32 + 1, math.MaxInt} {
		for _, last := range []int{65326, 65327, 65328} {
			y := &pair{d: disk.New(api.MaxRoom), seg: seg, p: &plain{d: disk.New(api.MaxRoom)}}
			y.l, _, _ = wal.Open(y.d, seg)
			y.p, _, _ = plainOpen(y.p.d, seg)
			for i := range 15 {
				y.l.Append(int64(i), []byte(body))
				y.p.append(int64(i), body)
			}
			wantLog(t, y.l, 14, 1, false)
			want(t, "Append", y.append(t, 15, body[:last]), api.OK)
			size, _ := y.d.Size("wal-000001")
			wantSegs := 1
			if 983235+last+14 > min(seg, 1048576) {
				wantSegs = 2
			}
			if y.l.Segs() != wantSegs || size > 1048576 {
				t.Errorf("bound %d, last %d: %d segments, the first one of %d bytes", seg, last, y.l.Segs(), size)
			}
		}
	}
}

// P16.1: the greatest number; above it there is no segment.
func TestGreatestNumber(t *testing.T) {
	for _, n := range []int{9, 10, 99, 100, 99999, 100000, 999997, 999998, 999999} {
		y := loaded(t, 20, file(segmentName(n), entryOf(5, "ab")))
		wantLog(t, y.l, 5, 1, false)
		for time := int64(6); time < 9; time++ {
			steps := y.d.Steps()
			e := y.append(t, time, "cd")
			left := n+int(time)-5 <= 999999
			if left != (e == api.OK) || !left && (e != api.ErrFull || y.d.Steps() != steps || y.l.Dead()) {
				t.Errorf("the log behind number %d: Append at %d = %d, dead %t", n, time, e, y.l.Dead())
			}
			if !left {
				want(t, "Append of ErrArg", y.append(t, 5, ""), api.ErrArg)
				want(t, "Append of ErrLong", y.append(t, 90, strings.Repeat("x", 65536)), api.ErrLong)
				want(t, "Sync", y.do(t, "Sync"), api.OK)
			}
		}
		y.do(t, "Sync")
		y.do(t, "Crash")
		y.append(t, 9, "")
		y.drop(t, 9)
		y.append(t, 10, "")
		y.do(t, "Crash")
		y.append(t, 11, "")
	}
	// The last segment takes what goes into it.
	y := loaded(t, 40, file("wal-999998", entryOf(5, "ab")))
	for time := int64(6); time < 12; time++ {
		e := y.append(t, time, "")
		if (e == api.OK) != (time < 8) {
			t.Errorf("Append at %d = %d", time, e)
		}
	}
	wantLog(t, y.l, 7, 2, false)
}

// P16.1: files of other names are none of the log's business, whatever they hold.
func TestOtherNames(t *testing.T) {
	names := []string{"wal-000000", "wal-0000001", "wal-00001", "wal-1", "wal-", "wal", "wal-1000000", "wal-9999999", "wal-00000a", "wal-a00000", "wal-0x0001", "wal-000001.tmp", "wal-000001-", "wal--00001", "wal-.00001", "wal_000001", "xwal-000001", "000001", "000002", "wal-0000_1", "wal-1_0000", "wal-1e0000", "wal-000001x", "wax-000001", "wal-wal-000001", "super", "set-000007.keys", "wal.000001"}
	var files []api.File
	for i, name := range names {
		files = append(files, file(name, []string{"spoilt, and longer than a head", entryOf(3, "c"), "", "torn"}[i%4]))
	}
	y := loaded(t, 20, files...)
	wantLog(t, y.l, -1, 0, false)
	y.drop(t, math.MaxInt64)
	want(t, "Append", y.append(t, 0, ""), api.OK)
	want(t, "Append", y.append(t, 1, ""), api.OK)
	wantLog(t, y.l, 1, 2, false)
	y.do(t, "Sync")
	y.do(t, "Crash")
	wantLog(t, y.l, 1, 2, false)
	y.drop(t, math.MaxInt64)
	wantLog(t, y.l, 1, 0, false)
	if len(y.d.Files()) != len(names) {
		t.Errorf("%d files are left", len(y.d.Files()))
	}
	for _, f := range files {
		b, e := y.d.Read(f.Name, 0, len(f.Data))
		if size, _ := y.d.Size(f.Name); !bytes.Equal(b, f.Data) || size != len(f.Data) || e != api.OK {
			t.Errorf("%s has changed: %q, %d", f.Name, b, e)
		}
	}
	for _, name := range names {
		y := loaded(t, 20, file(name, "spoilt, and longer than a head"), file("wal-000007", entryOf(3, "c")))
		wantLog(t, y.l, 3, 1, false)
		y.append(t, 4, "")
		wantLog(t, y.l, 4, 2, false)
		if _, e := y.d.Size("wal-000008"); e != api.OK {
			t.Errorf("no wal-000008 beside %s", name)
		}
	}
}

// P16.1: entries lie in the order of the segments' numbers, with gaps or without; the next number is above the greatest.
func TestOrderOfSegments(t *testing.T) {
	y := loaded(t, 100, file("wal-000010", entryOf(4, "d"), entryOf(7, "e")), file("wal-000002", entryOf(2, "b")), file("wal-100000", entryOf(8, "f")), file("wal-000009"), file("wal-000001", entryOf(0, "a")))
	wantLog(t, wantFound(t, "found", y.d, "0a 2b 4d 7e 8f"), 8, 5, false)
	y.append(t, 9, "g")
	if _, e := y.d.Size("wal-100001"); e != api.OK {
		t.Error("no wal-100001")
	}
	want(t, "Drop", y.drop(t, 4), api.OK)
	wantLog(t, y.l, 9, 3, false)
	want(t, "Drop", y.drop(t, 7), api.OK)
	wantLog(t, y.l, 9, 2, false)
	y.do(t, "Sync")
	y.do(t, "Crash")
	wantFound(t, "found", y.d, "8f 9g")
}

// wantCorrupt: the log of these files is refused, wherever among others they stand.
func wantCorrupt(t *testing.T, what string, files ...api.File) {
	t.Helper()
	for _, others := range [][]api.File{nil, {file("wal-000000", "x"), file("super")}, {file("wal-900000"), file("wal-900001", "torn")}} {
		all := slices.Concat(files, others)
		if y := loaded(t, 100, all...); y.l != nil {
			t.Errorf("%s is a log", what)
		}
	}
}

// P16.1: what is torn is told up to there, in any segment, and stays as it is.
func TestTorn(t *testing.T) {
	a, b, c := entryOf(1, "a"), entryOf(200, "bb"), entryOf(300, "c")
	for n := range len(a+b) + 1 {
		part := (a + b)[:n]
		found := ""
		if n >= len(a) {
			found = "1a "
		}
		if n == len(a+b) {
			found = "1a 200bb "
		}
		for _, first := range []int{0, 1} {
			files := []api.File{file("wal-000005", part), file("wal-000006", c)}
			y := loaded(t, 100, files[:2-first]...)
			l := wantFound(t, "cut at "+strconv.Itoa(n), y.d, strings.TrimSpace(found+"300c "[5*first:]))
			if l.Segs() != 2-first {
				t.Errorf("%d segments", l.Segs())
			}
			y.append(t, 400, "d")
			y.do(t, "Sync")
			y.do(t, "Crash")
			wantFound(t, "and once more", y.d, found+"300c "[5*first:]+"400d")
			if b, _ := y.d.Read("wal-000005", 0, n); string(b) != part {
				t.Errorf("what is torn is %q; it was %q", b, part)
			}
			// Only what the good part holds counts for Drop.
			y.drop(t, 200)
			y.drop(t, 300)
			y.drop(t, math.MaxInt64)
		}
	}
	// A long body of which little is there.
	for n := range 60 {
		part := framed(1, 65536, strings.Repeat("x", 65536))[:n]
		y := loaded(t, 100, file("wal-000001", a, part))
		wantFound(t, "cut at "+strconv.Itoa(n), y.d, "1a")
	}
}

// P16.1: what is spoilt, in any segment.
func TestSpoilt(t *testing.T) {
	a, b, c := entryOf(1, "a"), entryOf(200, "bb"), entryOf(300, "c")
	for _, x := range []struct{ what, bytes string }{
		{"a wrong sum of a head", "\x01\x01\x00\x00\x00\x00\x00\x00\x00\x05\x00\x00\x00\x00"},
		{"a wrong sum of a head, and no body", "\x01\x01\x00\x00\x00\x00\x00\x00\x00"},
		{"nine zeros", strings.Repeat("\x00", 9)},
		{"kind 0", framed(0, 3, "\x90\x03x")},
		{"kind 0, cut off", framed(0, 3, "\x90\x03x")[:9]},
		{"too long", framed(1, 65537, "\x90\x03x")},
		{"too long, cut off", framed(1, 65537, "\x90\x03x")[:9]},
		{"far too long", framed(1, math.MaxUint32, "\x90\x03x")},
		{"a wrong sum of a body", framed(1, 3, "\x90\x03x")[:15] + "z"},
		{"kind 2", framed(2, 3, "\x90\x03x")},
		{"kind 255", framed(255, 3, "\x90\x03x")},
		{"no body", framed(1, 0, "")},
		{"half a number", framed(1, 1, "\x90")},
		{"half a number of nine bytes", framed(1, 9, strings.Repeat("\x90", 9))},
		{"another form of a number", framed(1, 4, "\x90\x83\x00x")},
		{"another form of 0", framed(1, 2, "\x80\x00")},
		{"a number of eleven bytes", framed(1, 12, strings.Repeat("\x80", 10)+"\x01x")},
		{"2 to the 64th", framed(1, 10, strings.Repeat("\x80", 9)+"\x02")},
		{"the greatest number", entryOf(math.MaxUint64, "x")},
		{"2 to the 63rd", entryOf(1<<63, "x")},
		{"2 to the 63rd and 400", entryOf(1<<63+400, "x")},
		{"2 to the 62nd", entryOf(1<<62, "x")},
		{"above the greatest time", entryOf(1<<40+1, "x")},
		{"the same time", entryOf(200, "x")},
		{"an earlier time", entryOf(199, "x")},
		{"the earliest time", entryOf(0, "x")},
		{"the time of the first one", entryOf(1, "x")},
	} {
		wantCorrupt(t, x.what, file("wal-000001", a, b, x.bytes))
		wantCorrupt(t, x.what+", and more behind it", file("wal-000001", a, b, x.bytes, c))
		wantCorrupt(t, x.what+", and a torn end", file("wal-000001", a, b, x.bytes+"torn, but long enough for a head"[:5]))
		wantCorrupt(t, x.what+" in a segment of its own", file("wal-000001", a, b), file("wal-000003", x.bytes))
		wantCorrupt(t, x.what+" in a segment in the middle", file("wal-000001", a, b), file("wal-000003", x.bytes), file("wal-000004", c))
		wantCorrupt(t, x.what+" behind a torn one", file("wal-000001", a, b, "torn"), file("wal-000003"), file("wal-000004", x.bytes))
	}
	for _, time := range []uint64{201, 1<<40 - 1, 1 << 40} {
		y := loaded(t, 100, file("wal-000001", a, b, entryOf(time, "x")))
		wantLog(t, y.l, int64(time), 1, false)
		y = loaded(t, 100, file("wal-000001", a, b), file("wal-000002"), file("wal-000003", entryOf(time, "")))
		wantLog(t, y.l, int64(time), 3, false)
	}
	wantCorrupt(t, "segments in another order", file("wal-000002", a), file("wal-000001", b))
	wantCorrupt(t, "two segments with the same entry", file("wal-000002", a), file("wal-000001", a))
	// What is wrong with the first entry of all isn't told by its time.
	for _, first := range []string{framed(1, 0, ""), framed(1, 1, "\x90"), framed(1, 4, "\x90\x83\x00x"), framed(2, 1, "\x05"), framed(255, 1, "\x05"), framed(0, 1, "\x05"), entryOf(1<<40+1, ""), entryOf(1<<63, ""), entryOf(math.MaxUint64, "")} {
		wantCorrupt(t, "a wrong first entry", file("wal-000001", first))
		wantCorrupt(t, "a wrong first entry, and another one", file("wal-000001", first, a))
		wantCorrupt(t, "a wrong first entry in a second segment", file("wal-000001"), file("wal-000002", first))
	}
}

// P16.1, P1: without power there is no log, whatever lies there.
func TestPower(t *testing.T) {
	for _, files := range [][]api.File{nil, {file("wal-000001", entryOf(5, "ab"))}, {file("wal-000001", "spoilt, and longer than a head")}} {
		y := loaded(t, 100, files...)
		y.d.Off()
		y.p.d.Off()
		if l, entries, e := wal.Open(y.d, 100); l != nil || entries != nil || e != api.ErrPower {
			t.Errorf("Open = %v, %v, %d", l, entries, e)
		}
		y.open(t)
		y.do(t, "Crash")
	}
	y := loaded(t, 100)
	y.append(t, 5, "ab")
	y.do(t, "Off")
	want(t, "Append", y.append(t, 5, "cd"), api.ErrArg)
	want(t, "Append", y.append(t, 6, "cd"), api.ErrPower)
	wantLog(t, y.l, 5, 1, true)
	want(t, "Append", y.append(t, 5, "cd"), api.ErrLog)
	y.do(t, "Crash")
	y.do(t, "Off")
	// A log that has made no segment needs no power to be synced.
	want(t, "Sync", y.do(t, "Sync"), api.OK)
	want(t, "Drop", y.drop(t, 4), api.ErrPower)
	wantLog(t, y.l, -1, 1, true)
	y.do(t, "Crash")
	y.append(t, 5, "ab")
	y.do(t, "Off")
	want(t, "Sync", y.do(t, "Sync"), api.ErrPower)
	want(t, "Sync", y.do(t, "Sync"), api.ErrLog)
}

// P16.1: the disk's own errors: no room for bytes, and none for files.
func TestNoRoom(t *testing.T) {
	d, other := disk.New(40), disk.New(40)
	y := &pair{d: d, seg: 1000, p: &plain{d: other}}
	y.open(t)
	want(t, "Append", y.append(t, 1, "a"), api.OK)
	want(t, "Append", y.append(t, 2, "much too long for this disk"), api.ErrFull)
	wantLog(t, y.l, 1, 1, true)
	y.do(t, "Open")
	want(t, "Append", y.append(t, 2, "b"), api.OK)
	wantLog(t, y.l, 2, 2, false)

	var files []api.File
	for i := range 399 {
		files = append(files, file("f"+strconv.Itoa(i)))
	}
	y = loaded(t, 1, files...)
	want(t, "Append", y.append(t, 1, "a"), api.OK)
	want(t, "Append", y.append(t, 2, "b"), api.ErrFull)
	wantLog(t, y.l, 1, 1, true)
}

// P16.1, P16.4: which segments Drop takes, over all times.
func TestDrop(t *testing.T) {
	for _, x := range []struct {
		what string
		d    func() *pair
	}{
		{"found", func() *pair {
			return loaded(t, 30, file("wal-000001", entryOf(2, "")), file("wal-000002", entryOf(4, ""), entryOf(6, "")), file("wal-000003", entryOf(7, ""), entryOf(9, "")))
		}},
		{"found, and made", func() *pair {
			y := loaded(t, 30, file("wal-000001", entryOf(2, "")), file("wal-000002", entryOf(4, "")))
			for time := int64(5); time < 10; time++ {
				y.append(t, time, "")
			}
			return y
		}},
		{"made", func() *pair {
			y := loaded(t, 30)
			for time := int64(1); time < 10; time++ {
				y.append(t, time, "")
			}
			return y
		}},
		{"empty ones", func() *pair {
			return loaded(t, 30, file("wal-000001"), file("wal-000002", "torn"), file("wal-000004", entryOf(4, "")), file("wal-000005"), file("wal-000006", entryOf(6, "")), file("wal-000007"))
		}},
		{"an empty one made behind", func() *pair {
			y := loaded(t, 30, file("wal-000001"))
			y.append(t, 5, "")
			return y
		}},
		{"nothing", func() *pair { return loaded(t, 30) }},
	} {
		for _, first := range []int64{math.MinInt64, -2, -1, 0, 1, 2, 3, 4, 5, 6, 7, 8, 9, 10, 1 << 40, math.MaxInt64} {
			for _, second := range []int64{-1, 4, 9, math.MaxInt64} {
				y := x.d()
				last := y.l.Last()
				segs := y.l.Segs()
				want(t, "Drop", y.drop(t, first), api.OK)
				want(t, "Drop", y.drop(t, second), api.OK)
				if y.l.Last() != last || y.l.Segs() > segs {
					t.Errorf("%s: Last %d, it was %d", x.what, y.l.Last(), last)
				}
				y.do(t, "Open")
				y.drop(t, second)
				y.append(t, 20, "")
				y.append(t, 21, "")
				y.drop(t, first)
				y.drop(t, math.MaxInt64)
				if y.l.Segs() != 1 || y.l.Last() != 21 {
					t.Errorf("%s: %d segments, last %d", x.what, y.l.Segs(), y.l.Last())
				}
			}
		}
	}
}

// P16.1: how many were removed, beside an error too.
func TestDropRefused(t *testing.T) {
	for step := 1; step <= 5; step++ {
		for kind := 1; kind <= 4; kind++ {
			y := loaded(t, 100, file("wal-000001", entryOf(1, "")), file("wal-000002"), file("wal-000003", entryOf(3, "")), file("wal-000004", entryOf(4, "")))
			y.plan(t, step, kind, 0)
			n, e := y.l.Drop(3)
			wantErr := []api.Errno{0, api.ErrDisk, api.ErrFull, api.ErrPower, api.ErrPower}[kind]
			if step == 5 {
				wantErr = api.OK
			}
			if n != min(step-1, 3) || e != wantErr || y.l.Segs() != 4-n || y.l.Last() != 4 || y.l.Dead() != (e != api.OK) {
				t.Errorf("fate %d at step %d: Drop = %d, %d; %d segments, last %d", kind, step, n, e, y.l.Segs(), y.l.Last())
			}
			if m, e := y.p.drop(3); m != n || e != wantErr {
				t.Errorf("fate %d at step %d: the plain Drop = %d, %d", kind, step, m, e)
			}
			y.same(t)
		}
	}
}

// P16.1: the greatest time outlasts what was dropped, but not the log.
func TestLast(t *testing.T) {
	y := loaded(t, 1, file("wal-000001", entryOf(3, "")), file("wal-000002", entryOf(5, "")))
	want(t, "Drop", y.drop(t, 9), api.OK)
	wantLog(t, y.l, 5, 0, false)
	want(t, "Append", y.append(t, 5, ""), api.ErrArg)
	want(t, "Drop", y.drop(t, 9), api.OK)
	want(t, "Append", y.append(t, 6, ""), api.OK)
	wantLog(t, y.l, 6, 1, false)
	if _, e := y.d.Size("wal-000003"); e != api.OK {
		t.Error("no wal-000003")
	}
	y.do(t, "Crash")
	wantLog(t, y.l, -1, 1, false)
	want(t, "Drop", y.drop(t, -5), api.OK)
	wantLog(t, y.l, -1, 0, false)
	y.do(t, "Open")
	want(t, "Append", y.append(t, 0, ""), api.OK)
	if _, e := y.d.Size("wal-000001"); e != api.OK {
		t.Error("no wal-000001")
	}
}

// P16.1: all calls one behind the other, and fates at the next steps.
func TestAllOrders(t *testing.T) {
	calls := []call{
		{name: "Append", body: "a"}, {name: "Append", body: "a longer one, above the bound"}, {name: "Sync"}, {name: "Drop", time: 1}, {name: "Drop", time: 9},
		{name: "Open"}, {name: "Crash"}, {name: "Crash", keeps: []int{1, 20, 3}}, {name: "Crash", keeps: []int{9, 99, 99}},
		{name: "Plan", fate: api.Fate{Step: 1, Kind: 1}}, {name: "Plan", fate: api.Fate{Step: 2, Kind: 2, N: 5}}, {name: "Plan", fate: api.Fate{Step: 3, Kind: 2, N: 99}}, {name: "Plan", fate: api.Fate{Step: 2, Kind: 3}}, {name: "Plan", fate: api.Fate{Step: 1, Kind: 4}}, {name: "Plan", fate: api.Fate{Step: 3, Kind: 4}},
	}
	n := len(calls)
	for k := range n * n * n * n {
		y := loaded(t, 35)
		y.append(t, 0, "")
		for time := range int64(4) {
			c := calls[k%n]
			if c.name == "Append" {
				c.time = time + 1
			}
			// Behind the power's going the log is opened anew.
			if !y.d.Power() {
				y.do(t, "Crash")
			}
			y.carry(t, c)
			k /= n
		}
		if t.Failed() {
			return
		}
	}
}

// someCall is any call behind this time.
func someCall(rnd *rand.Rand, last int64) call {
	switch k := rnd.IntN(40); {
	case k < 18:
		return call{name: "Append", time: last + 1 + int64(rnd.IntN(300)*rnd.IntN(2)), body: strings.Repeat("x", rnd.IntN(30))}
	case k < 19:
		return call{name: "Append", time: last - int64(rnd.IntN(3)), body: "x"}
	case k < 26:
		return call{name: "Sync"}
	case k < 30:
		return call{name: "Drop", time: last - int64(rnd.IntN(200))}
	case k < 32:
		return call{name: "Open"}
	case k < 34:
		keeps := make([]int, rnd.IntN(9))
		for i := range keeps {
			keeps[i] = rnd.IntN(60) - 5
		}
		return call{name: "Crash", keeps: keeps}
	}
	return call{name: "Plan", fate: api.Fate{Step: 1 + rnd.IntN(6), Kind: 1 + rnd.IntN(4), N: rnd.IntN(40)}}
}

// P16.1: calls, failures and crashes in any order.
func TestAnyOrder(t *testing.T) {
	rnd := rand.New(rand.NewPCG(16, 1))
	for range 400 {
		y := loaded(t, []int{1, 30, 60, 200}[rnd.IntN(4)])
		for range 100 {
			if !y.d.Power() {
				y.carry(t, call{name: "Crash", keeps: []int{rnd.IntN(4), rnd.IntN(50), rnd.IntN(50), rnd.IntN(50), rnd.IntN(50)}})
			}
			y.carry(t, someCall(rnd, y.l.Last()))
			if t.Failed() {
				return
			}
		}
	}
}

// A life is a log over several lives of the power, and what it is to hold.
type life struct {
	d      *disk.Disk
	l      *wal.Log
	all    []api.Entry // of those that were appended, all that may still be there
	synced int         // so many of them have to be there, but for those that were dropped
	gone   int64       // up to this time entries may be gone
	away   int64       // up to this time they are gone for good, where a segment held nothing later
}

func (y *life) append(time int64, body string) {
	// One that was refused may be there, too: nothing stands behind it.
	if e := y.l.Append(time, []byte(body)); e == api.OK || y.l.Dead() && e != api.ErrLog {
		y.all = append(y.all, api.Entry{Time: time, Body: []byte(body)})
	}
}

// found is what is there behind a crash: with none missing in between, none that was synced missing at the end, and none at the beginning that wasn't to be dropped.
func (y *life) found(t *testing.T, seg int) {
	t.Helper()
	l, entries, e := wal.Open(y.d, seg)
	if e != api.OK {
		t.Fatalf("Open = %d", e)
	}
	from := 0
	for from < len(y.all) && (len(entries) == 0 || y.all[from].Time < entries[0].Time) {
		if y.all[from].Time > y.gone {
			if len(entries) > 0 || from < y.synced {
				t.Errorf("the entry of time %d isn't there; dropped was up to %d", y.all[from].Time, y.gone)
			}
			break
		}
		from++
	}
	if len(entries) > len(y.all)-from || !sameEntries(entries, y.all[from:from+len(entries)]) {
		t.Errorf("found %v; appended were %v", entries, y.all[from:])
		return
	}
	if from+len(entries) < y.synced && len(entries) > 0 {
		t.Errorf("%d entries are found; %d were synced", from+len(entries), y.synced)
	}
	y.l, y.all, y.synced = l, slices.Clone(entries), len(entries)
	if l.Last() != int64(-1) && l.Last() != entries[len(entries)-1].Time {
		t.Errorf("Last = %d", l.Last())
	}
	// Opened once more, it is the same.
	again, others, e := wal.Open(y.d, seg)
	if !sameEntries(entries, others) || e != api.OK || again.Last() != l.Last() || again.Segs() != l.Segs() || again.Dead() {
		t.Errorf("opened again: %v, %d", others, e)
	}
}

// P16.2, P16.3, P16.4, P5: behind every crash all that was synced and not dropped, of the rest a beginning, and no entry ahead of one that is gone.
func TestCrashes(t *testing.T) {
	rnd := rand.New(rand.NewPCG(16, 2))
	for range 1500 {
		seg := []int{1, 40, 100, 1000}[rnd.IntN(4)]
		y := &life{d: disk.New(5000), gone: -1}
		y.found(t, seg)
		time := int64(0)
		for range 4 {
			y.d.Plan(api.Fate{Step: y.d.Steps() + 1 + rnd.IntN(30), Kind: 1 + rnd.IntN(4), N: rnd.IntN(40)})
			for range 20 {
				time += 1 + int64(rnd.IntN(2))
				switch rnd.IntN(8) {
				case 0, 1:
					if y.l.Sync() == api.OK {
						y.synced = len(y.all)
					}
				case 2:
					to := time - int64(rnd.IntN(12))
					if !y.l.Dead() {
						y.gone = max(y.gone, to)
					}
					y.l.Drop(to)
				default:
					y.append(time, strings.Repeat("x", rnd.IntN(30)))
				}
			}
			keeps := make([]int, 30)
			for i := range keeps {
				keeps[i] = rnd.IntN(30) - 3
			}
			y.d.On(keeps[:rnd.IntN(31)]...)
			y.found(t, seg)
			if t.Failed() {
				return
			}
		}
	}
}

// P16.2: whatever step the power goes at, and whatever is kept.
func TestEveryCrash(t *testing.T) {
	for step := 1; step <= 22; step++ {
		for kind := 1; kind <= 4; kind++ {
			for _, keeps := range [][]int{nil, {1}, {9}, {1, 9, 9, 9}, {9, 5, 5, 5}, {9, 99, 99, 99}, {0, 0, 20, 99}, {1, 0, 0, 1}, {2, 16, 17, 18}} {
				y := &life{d: disk.New(5000), gone: -1}
				y.found(t, 40)
				y.d.Plan(api.Fate{Step: step, Kind: kind, N: 7})
				for time := range int64(9) {
					y.append(time, "body")
					if time%3 == 2 && y.l.Sync() == api.OK {
						y.synced = len(y.all)
					}
					if time == 6 {
						y.gone = 3
						y.l.Drop(3)
					}
				}
				y.d.On(keeps...)
				y.found(t, 40)
				y.append(20, "behind it")
				if y.l.Sync() != api.OK {
					t.Errorf("Sync behind a crash at step %d is refused", step)
				}
				y.synced = len(y.all)
				y.d.On()
				y.found(t, 40)
			}
		}
	}
}

// P16.3: opened again in the same life, it is the same, whatever is torn.
func TestOpenedTwice(t *testing.T) {
	y := loaded(t, 30, file("wal-000001", entryOf(2, "a")), file("wal-000002"), file("wal-000003", entryOf(4, "b"), "torn"))
	first := y.open(t)
	for range 5 {
		if again := y.open(t); !sameEntries(first, again) {
			t.Errorf("%v; it was %v", again, first)
		}
		wantLog(t, y.l, 4, 3, false)
	}
	y.append(t, 5, "c")
	y.open(t)
	wantLog(t, y.l, 5, 4, false)
	// A segment of another log takes no more; it is this log's to drop.
	y.append(t, 6, "d")
	wantLog(t, y.l, 6, 5, false)
	want(t, "Drop", y.drop(t, 6), api.OK)
	wantLog(t, y.l, 6, 1, false)
}

// P16.5, P6: any run of at most 32 bits that is turned is told, or changes nothing that is found.
func TestTurnedBits(t *testing.T) {
	rnd := rand.New(rand.NewPCG(16, 3))
	a, b, c := entryOf(1, "a"), entryOf(2, "bb"), entryOf(3, "")
	for _, torn := range []string{"", c[:1], c[:8], c[:9], c[:12], c[:13]} {
		data := a + b + torn
		d, _ := disk.Load(1000, file("wal-000001", data), file("wal-000002", entryOf(9, "z")))
		_, found, e := wal.Open(d, 100)
		if len(found) != 3 || e != api.OK {
			t.Fatalf("Open = %v, %d", found, e)
		}
		try := func(from int, mask uint64) {
			t.Helper()
			turn := func() {
				for k := range 32 {
					if place := from + k; mask>>k&1 == 1 && place < 8*len(data) {
						d.Flip(0, place/8, 1<<(place%8))
					}
				}
			}
			turn()
			l, entries, e := wal.Open(d, 100)
			if (e != api.OK || !sameEntries(entries, found)) && (e != api.ErrCorrupt || l != nil || entries != nil) {
				t.Errorf("turned at %d by %x: %v, %d", from, mask, entries, e)
			}
			if whole := 8 * len(a+b); from < whole && mask&1 == 1 && e != api.ErrCorrupt {
				t.Errorf("turned at %d by %x: nobody has told it", from, mask)
			}
			turn()
		}
		for from := range 8 * len(data) {
			for size := 1; size <= 32; size++ {
				try(from, 1<<size-1)
			}
			for range 20 {
				try(from, 1|rnd.Uint64()>>32)
			}
		}
	}
}

const mark = 0xa5

func isMarked(b []byte) bool {
	return bytes.Equal(b, bytes.Repeat([]byte{mark}, len(b)))
}

// fill writes over a list and its spare room.
func fill(b []byte) {
	b = b[:cap(b)]
	for i := range b {
		b[i] = mark
	}
}

// P16.6: a body is neither changed nor kept.
func TestArguments(t *testing.T) {
	y := loaded(t, 100)
	for i, body := range []string{"", "a", "some bytes", strings.Repeat("x", 200), strings.Repeat("y", 66000)} {
		given := append([]byte(body), bytes.Repeat([]byte{mark}, 9)...)[:len(body)]
		e := y.l.Append(int64(i), given)
		want(t, "Append", e, y.p.append(int64(i), body))
		if string(given) != body || !isMarked(given[len(body):len(body)+9]) {
			t.Errorf("the body has changed: %.40q", given)
		}
		fill(given)
		y.same(t)
	}
	y.do(t, "Sync")
	y.do(t, "Crash")
	if y.l.Append(9, nil) != api.OK || y.p.append(9, "") != api.OK {
		t.Error("Append of nil")
	}
	y.same(t)
}

// P16.6: what is found is new memory, of which no two lists share any.
func TestAnswersAreNew(t *testing.T) {
	files := []api.File{file("wal-000001", entryOf(1, "a"), entryOf(2, ""), entryOf(300, "some bytes")), file("wal-000002", entryOf(400, "b"))}
	d, _ := disk.Load(1000, files...)
	l, entries, e := wal.Open(d, 30)
	_, others, _ := wal.Open(d, 30)
	if len(entries) != 4 || e != api.OK {
		t.Fatalf("Open = %v, %d", entries, e)
	}
	all := entries[:cap(entries)]
	for i := range all {
		b := all[i].Body[:cap(all[i].Body)]
		for k := range b {
			b[k] = byte(i)
		}
	}
	for i := range all {
		if b := all[i].Body[:cap(all[i].Body)]; !bytes.Equal(b, bytes.Repeat([]byte{byte(i)}, len(b))) {
			t.Errorf("two lists of one answer share: %v", b)
		}
		all[i] = api.Entry{Time: 7, Body: []byte("z")}
	}
	if string(others[0].Body)+string(others[1].Body)+string(others[2].Body)+string(others[3].Body) != "asome bytesb" {
		t.Errorf("two answers share: %v", others)
	}
	if !sameFiles(d.Files(), files) {
		t.Error("the disk has changed")
	}
	wantLog(t, l, 400, 2, false)
	if n, e := l.Drop(300); n != 1 || e != api.OK {
		t.Errorf("Drop = %d, %d", n, e)
	}
	wantFound(t, "left", d, "400b")
}

// P2: two logs over two disks have nothing to do with each other; asked again, they tell the same.
func TestTwoLogs(t *testing.T) {
	x, y := loaded(t, 30), loaded(t, 30)
	for time := range int64(20) {
		x.append(t, time, "x")
		if time%3 == 0 {
			y.append(t, 2*time, "yy")
			y.do(t, "Sync")
		}
		if time%7 == 6 {
			y.drop(t, time)
			y.do(t, "Crash")
		}
		for range 2 {
			x.same(t)
			y.same(t)
		}
	}
	x.do(t, "Crash")
	x.same(t)
}
