package meta_test

import (
	"bytes"
	"fmt"
	"hash/crc32"
	"math"
	"math/rand/v2"
	"reflect"
	"slices"
	"strings"
	"testing"

	"stoa/api"
	"stoa/disk"
	"stoa/meta"
	"stoa/schema"
)

// The helpers beneath say in the plainest way what the chapter says, without the layers of frames and numbers.

const most = int64(1) << 40 // MaxTime

func table() api.Schema {
	return api.Schema{Cols: []api.Column{{Name: "id", Kind: api.KI32}, {Name: "name", Kind: api.KStr, Null: true}}, Keys: 1}
}

// small is a meta of two sets.
func small() api.Meta {
	sets := []api.SetMeta{{Id: 3, Rows: 2, Cover: 300, Files: 1}, {Id: 7, Rows: 4096, Cover: 0, Files: 0}}
	return api.Meta{Gen: 5, Next: 8, Flush: -1, Last: 9, Mark: 4, Schema: table(), Sets: sets}
}

// gen is a meta without sets, of which the Gen tells which one it is.
func gen(n int) api.Meta {
	return api.Meta{Gen: n, Next: 1, Flush: -1, Last: -1, Schema: table()}
}

// number divides by 128 until nothing is left.
func number(u uint64) []byte {
	var b []byte
	for ; u >= 128; u /= 128 {
		b = append(b, byte(u%128)+128)
	}
	return append(b, byte(u))
}

func numbers(us ...uint64) []byte {
	var b []byte
	for _, u := range us {
		b = append(b, number(u)...)
	}
	return b
}

// sealed is b with the library's sum behind.
func sealed(b []byte) []byte {
	sum := crc32.Checksum(b, crc32.MakeTable(crc32.Castagnoli))
	return append(slices.Clone(b), byte(sum), byte(sum>>8), byte(sum>>16), byte(sum>>24))
}

// framed is a frame of any kind, under right sums.
func framed(kind byte, body []byte) []byte {
	n := len(body)
	return slices.Concat(sealed([]byte{kind, byte(n), byte(n >> 8), byte(n >> 16), byte(n >> 24)}), sealed(body))
}

// plainBody writes a meta, right or not.
func plainBody(m api.Meta) []byte {
	b := numbers(uint64(m.Gen), uint64(m.Next), uint64(m.Flush+1), uint64(m.Mark), uint64(m.Last+1), uint64(m.Schema.Keys), uint64(len(m.Schema.Cols)))
	for _, col := range m.Schema.Cols {
		null := uint64(0)
		if col.Null {
			null = 1
		}
		b = slices.Concat(b, number(uint64(len(col.Name))), []byte(col.Name), numbers(uint64(col.Kind), null))
	}
	b = append(b, number(uint64(len(m.Sets)))...)
	for _, set := range m.Sets {
		b = append(b, numbers(uint64(set.Id), uint64(set.Rows), uint64(set.Cover), uint64(set.Files))...)
	}
	return b
}

func written(m api.Meta) []byte {
	return framed(2, plainBody(m))
}

// plainErr counts what isn't right.
func plainErr(m api.Meta) api.Errno {
	if schema.Check(m.Schema) != api.OK {
		return api.ErrSchema
	}
	wrong := 0
	outside := func(n, first, last int64) {
		if n < first || last < n {
			wrong++
		}
	}
	outside(int64(m.Gen), 1, 1099511627776)
	outside(int64(m.Next), 1, 1000000)
	outside(m.Flush, -1, 1099511627776)
	outside(m.Last, -1, 1099511627776)
	outside(m.Mark, 0, 1099511627776)
	outside(int64(len(m.Sets)), 0, 64)
	for i, set := range m.Sets {
		outside(int64(set.Id), 1, int64(m.Next)-1)
		outside(int64(set.Rows), 1, 4096)
		outside(set.Cover, 0, 1099511627776)
		outside(int64(set.Files), 0, 999)
		for _, ahead := range m.Sets[:i] {
			if ahead.Id >= set.Id {
				wrong++
			}
		}
	}
	if wrong > 0 {
		return api.ErrArg
	}
	return api.OK
}

// loose reads a body without looking at what it reads: what it can't read is 0.
type loose struct{ b []byte }

func (r *loose) number() uint64 {
	u := uint64(0)
	for i := 0; i < 10 && i < len(r.b); i++ {
		u += uint64(r.b[i]%128) << (7 * i)
		if r.b[i] < 128 {
			r.b = r.b[i+1:]
			return u
		}
	}
	r.b = nil
	return 0
}

func (r *loose) text(n uint64) string {
	if n > uint64(len(r.b)) {
		n = uint64(len(r.b))
	}
	s := string(r.b[:n])
	r.b = r.b[n:]
	return s
}

func (r *loose) meta() api.Meta {
	m := api.Meta{Gen: int(r.number()), Next: int(r.number()), Flush: int64(r.number()) - 1, Mark: int64(r.number()), Last: int64(r.number()) - 1}
	m.Schema.Keys = int(r.number())
	for n := r.number(); n > 0 && len(r.b) > 0; n-- {
		m.Schema.Cols = append(m.Schema.Cols, api.Column{Name: r.text(r.number()), Kind: int(r.number()), Null: r.number() == 1})
	}
	for n := r.number(); n > 0 && len(r.b) > 0; n-- {
		m.Sets = append(m.Sets, api.SetMeta{Id: int(r.number()), Rows: int(r.number()), Cover: int64(r.number()), Files: int(r.number())})
	}
	return m
}

// plainDecode finds a meta and holds the bytes against those that it is written by.
func plainDecode(b []byte) (api.Meta, api.Errno) {
	if len(b) < 13 {
		return api.Meta{}, api.ErrCorrupt
	}
	m := (&loose{b[9 : len(b)-4]}).meta()
	if plainErr(m) != api.OK || !bytes.Equal(written(m), b) {
		return api.Meta{}, api.ErrCorrupt
	}
	return m, api.OK
}

func sameMeta(a, b api.Meta) bool {
	return a.Gen == b.Gen && a.Next == b.Next && a.Flush == b.Flush && a.Mark == b.Mark && a.Last == b.Last && a.Schema.Keys == b.Schema.Keys && slices.Equal(a.Schema.Cols, b.Schema.Cols) && slices.Equal(a.Sets, b.Sets)
}

func isZero(m api.Meta) bool {
	return reflect.ValueOf(m).IsZero()
}

func wantEncode(t *testing.T, what string, m api.Meta) api.Errno {
	t.Helper()
	b, e := meta.Encode(m)
	want := plainErr(m)
	if e != want {
		t.Fatalf("Encode of %s = %d; want %d", what, e, want)
	}
	if e != api.OK && b != nil {
		t.Fatalf("Encode of %s answers bytes beside %d", what, e)
	}
	if e == api.OK && !bytes.Equal(b, written(m)) {
		t.Fatalf("Encode of %s = %x; want %x", what, b, written(m))
	}
	return e
}

func wantDecode(t *testing.T, what string, b []byte) api.Errno {
	t.Helper()
	m, e := meta.Decode(b)
	want, wantErr := plainDecode(b)
	if e != wantErr || !sameMeta(m, want) {
		t.Fatalf("Decode of %s (%x) = %v, %d; want %v, %d", what, b, m, e, want, wantErr)
	}
	if e != api.OK && !isZero(m) {
		t.Fatalf("Decode of %s answers %v beside %d", what, m, e)
	}
	return e
}

// The chapter's examples.
func TestExamples(t *testing.T) {
	if name, e := meta.Name(7, "keys"); name != "set-000007.keys" || e != api.OK {
		t.Errorf("Name = %q, %d", name, e)
	}
	if id, part, ok := meta.Parse("set-000007.keys"); id != 7 || part != "keys" || !ok {
		t.Errorf("Parse = %d, %q, %t", id, part, ok)
	}
	if id, part, ok := meta.Parse("set-000007.redo-000"); id != 0 || part != "" || ok {
		t.Errorf("Parse of redo-000 = %d, %q, %t", id, part, ok)
	}
	d := disk.New(1000)
	if m, ok, e := meta.Load(d); !isZero(m) || ok || e != api.OK {
		t.Errorf("Load of an empty disk = %v, %t, %d", m, ok, e)
	}
	if e := meta.Save(d, small()); e != api.OK || d.Steps() != 5 {
		t.Errorf("Save = %d, %d steps", e, d.Steps())
	}
	if names, _ := d.List(); !slices.Equal(names, []string{"super"}) {
		t.Errorf("the files are %q", names)
	}
	if m, ok, e := meta.Load(d); !sameMeta(m, small()) || !ok || e != api.OK {
		t.Errorf("Load = %v, %t, %d", m, ok, e)
	}
}

// P23.1: the form, byte by byte.
func TestForm(t *testing.T) {
	body := "\x05\x08\x00\x04\x0a" + "\x01\x02" + "\x02id\x03\x00" + "\x04name\x07\x01" + "\x02" + "\x03\x02\xac\x02\x01" + "\x07\x80\x20\x00\x00"
	want := framed(2, []byte(body))
	if b, e := meta.Encode(small()); e != api.OK || !bytes.Equal(b, want) {
		t.Errorf("Encode = %x, %d; want %x", b, e, want)
	}
	if m, e := meta.Decode(want); e != api.OK || !sameMeta(m, small()) {
		t.Errorf("Decode = %v, %d", m, e)
	}
}

// P23.1: each number below, at and above its bounds, and far away from them.
func TestBounds(t *testing.T) {
	far := []int64{math.MinInt64, math.MinInt64 + 1, -most, -2, -1, 0, 1, 2, 63, 64, 65, 998, 999, 1000, 4095, 4096, 4097, 999999, 1000000, 1000001, most - 1, most, most + 1, math.MaxInt64 - 1, math.MaxInt64}
	whole := func() api.Meta {
		m := gen(5)
		m.Next = 1000000
		m.Sets = []api.SetMeta{{Id: 500000, Rows: 1, Cover: 1, Files: 1}}
		return m
	}
	fields := map[string]func(m *api.Meta, n int64){
		"Gen":   func(m *api.Meta, n int64) { m.Gen = int(n) },
		"Next":  func(m *api.Meta, n int64) { m.Next, m.Sets = int(n), nil },
		"Flush": func(m *api.Meta, n int64) { m.Flush = n },
		"Mark":  func(m *api.Meta, n int64) { m.Mark = n },
		"Last":  func(m *api.Meta, n int64) { m.Last = n },
		"Id":    func(m *api.Meta, n int64) { m.Sets[0].Id = int(n) },
		"Rows":  func(m *api.Meta, n int64) { m.Sets[0].Rows = int(n) },
		"Cover": func(m *api.Meta, n int64) { m.Sets[0].Cover = n },
		"Files": func(m *api.Meta, n int64) { m.Sets[0].Files = int(n) },
	}
	right := map[string][2]int64{"Gen": {1, most}, "Next": {1, 1000000}, "Flush": {-1, most}, "Mark": {0, most}, "Last": {-1, most}, "Id": {1, 999999}, "Rows": {1, 4096}, "Cover": {0, most}, "Files": {0, 999}}
	for name, put := range fields {
		for _, n := range far {
			m := whole()
			put(&m, n)
			want := api.ErrArg
			if n >= right[name][0] && n <= right[name][1] {
				want = api.OK
			}
			if e := wantEncode(t, fmt.Sprint(name, " ", n), m); e != want {
				t.Errorf("Encode of %s %d = %d; want %d", name, n, e, want)
			}
			if e := wantDecode(t, fmt.Sprint(name, " ", n), written(m)); (e == api.OK) != (want == api.OK) {
				t.Errorf("Decode of %s %d = %d", name, n, e)
			}
			m.Schema.Keys = 0
			if e := wantEncode(t, "no schema", m); e != api.ErrSchema {
				t.Errorf("Encode without a key = %d", e)
			}
		}
	}
}

// P23.1: how many sets there may be, their order, and the next number behind them.
func TestSets(t *testing.T) {
	sets := func(ids ...int) api.Meta {
		m := gen(1)
		m.Next = 100
		for _, id := range ids {
			m.Sets = append(m.Sets, api.SetMeta{Id: id, Rows: 1})
		}
		return m
	}
	upto := func(n int) []int {
		var ids []int
		for i := range n {
			ids = append(ids, i+1)
		}
		return ids
	}
	for _, c := range []struct {
		m    api.Meta
		want api.Errno
	}{
		{sets(), api.OK}, {sets(1, 2), api.OK}, {sets(2, 1), api.ErrArg}, {sets(2, 2), api.ErrArg}, {sets(1, 3, 2), api.ErrArg},
		{sets(5, 99), api.OK}, {sets(5, 100), api.ErrArg}, {sets(0, 5), api.ErrArg}, {sets(-1, 5), api.ErrArg},
		{sets(upto(63)...), api.OK}, {sets(upto(64)...), api.OK}, {sets(upto(65)...), api.ErrArg}, {sets(upto(66)...), api.ErrArg},
	} {
		if e := wantEncode(t, "sets", c.m); e != c.want {
			t.Errorf("Encode of %v = %d; want %d", c.m.Sets, e, c.want)
		}
		if e := wantDecode(t, "sets", written(c.m)); (e == api.OK) != (c.want == api.OK) {
			t.Errorf("Decode of %v = %d", c.m.Sets, e)
		}
	}
}

// schemas are right ones and wrong ones.
func schemas() []api.Schema {
	long := strings.Repeat("n", 24)
	col := api.Column{Name: "a", Kind: 1}
	var twelve []api.Column
	for i := range 13 {
		twelve = append(twelve, api.Column{Name: string(rune('a' + i)), Kind: 1 + i%8, Null: i > 2})
	}
	all := []api.Schema{{}, {Keys: 1}, table()}
	for keys := -1; keys < 5; keys++ {
		all = append(all, api.Schema{Cols: twelve[:12], Keys: keys}, api.Schema{Cols: []api.Column{col}, Keys: keys})
	}
	all = append(all, api.Schema{Cols: twelve, Keys: 1}, api.Schema{Cols: []api.Column{col, col}, Keys: 1})
	for _, name := range []string{"", long, long + "n", "A", "a b", "\xff", "a_9", strings.Repeat("n", 200)} {
		all = append(all, api.Schema{Cols: []api.Column{{Name: name, Kind: 1}}, Keys: 1})
	}
	for _, kind := range []int{math.MinInt, -1, 0, 1, 8, 9, 255, 1 << 32, math.MaxInt} {
		all = append(all, api.Schema{Cols: []api.Column{{Name: "a", Kind: kind}}, Keys: 1})
		all = append(all, api.Schema{Cols: []api.Column{{Name: "a", Kind: 1}, {Name: "b", Kind: kind, Null: true}}, Keys: 1})
	}
	return append(all, api.Schema{Cols: []api.Column{{Name: "a", Kind: 1, Null: true}}, Keys: 1})
}

// P23.1: schemas, right and wrong; ErrSchema goes ahead of ErrArg.
func TestSchemas(t *testing.T) {
	told := map[api.Errno]int{}
	for _, s := range schemas() {
		m := gen(1)
		m.Schema = s
		told[wantEncode(t, fmt.Sprint(s), m)]++
		told[wantDecode(t, fmt.Sprint(s), written(m))]++
		m.Gen = 0
		told[wantEncode(t, fmt.Sprint(s), m)]++
	}
	if told[api.OK] < 20 || told[api.ErrSchema] < 20 || told[api.ErrArg] < 10 || told[api.ErrCorrupt] < 10 {
		t.Errorf("told: %v", told)
	}
}

func oneOf[T any](rnd *rand.Rand, list ...T) T {
	return list[rnd.IntN(len(list))]
}

func columnsOf(rnd *rand.Rand, keys, n int) []api.Column {
	var cols []api.Column
	for i := range n {
		name := fmt.Sprintf("%c%s", 'a'+i, strings.Repeat("x", rnd.IntN(24)))
		cols = append(cols, api.Column{Name: name, Kind: 1 + rnd.IntN(8), Null: i >= keys && rnd.IntN(2) == 0})
	}
	return cols
}

// metaOf is a right meta of any size.
func metaOf(rnd *rand.Rand) api.Meta {
	time := func() int64 { return oneOf(rnd, 0, 1, 127, 128, most-1, most, rnd.Int64N(most)) }
	keys := 1 + rnd.IntN(3)
	m := api.Meta{Gen: int(max(time(), 1)), Next: 1 + rnd.IntN(1000000), Flush: time() - rnd.Int64N(2), Mark: time(), Last: time() - rnd.Int64N(2)}
	m.Flush, m.Last = max(m.Flush, -1), max(m.Last, -1)
	m.Schema = api.Schema{Cols: columnsOf(rnd, keys, keys+rnd.IntN(13-keys)), Keys: keys}
	id := 0
	for range oneOf(rnd, 0, 1, 2, 5, 64) {
		id += 1 + rnd.IntN(oneOf(rnd, 1, 300, 10000))
		if id >= m.Next {
			break
		}
		m.Sets = append(m.Sets, api.SetMeta{Id: id, Rows: oneOf(rnd, 1, 4096, 1+rnd.IntN(4096)), Cover: time(), Files: oneOf(rnd, 0, 999, rnd.IntN(1000))})
	}
	return m
}

// P23.1, P3: what is encoded is decoded again.
func TestThereAndBack(t *testing.T) {
	rnd := rand.New(rand.NewPCG(23, 1))
	for range 20000 {
		m := metaOf(rnd)
		if e := wantEncode(t, "a right one", m); e != api.OK {
			t.Fatalf("Encode of %v = %d", m, e)
		}
		b, _ := meta.Encode(m)
		again, e := meta.Decode(b)
		if e != api.OK || !sameMeta(again, m) {
			t.Fatalf("Decode = %v, %d; want %v", again, e, m)
		}
	}
}

// The longest meta that there is.
func TestLongest(t *testing.T) {
	m := api.Meta{Gen: int(most), Next: 1000000, Flush: most, Mark: most, Last: most, Schema: api.Schema{Keys: 3}}
	for i := range 12 {
		m.Schema.Cols = append(m.Schema.Cols, api.Column{Name: strings.Repeat("n", 23) + string(rune('a'+i)), Kind: 8, Null: i > 2})
	}
	for i := range 64 {
		m.Sets = append(m.Sets, api.SetMeta{Id: 999936 + i, Rows: 4096, Cover: most, Files: 999})
	}
	b, e := meta.Encode(m)
	if again, f := meta.Decode(b); e != api.OK || f != api.OK || !sameMeta(again, m) {
		t.Errorf("Encode = %d; Decode = %v, %d", e, again, f)
	}
}

// bend alters some bytes of a body.
func bend(rnd *rand.Rand, b []byte) []byte {
	b = slices.Clone(b)
	for range 1 + rnd.IntN(2) {
		at := rnd.IntN(len(b))
		v := oneOf(rnd, 0, 1, 2, 3, 64, 65, 0x7f, 0x80, 0xff, byte(rnd.IntN(256)))
		switch rnd.IntN(5) {
		case 0:
			b = slices.Insert(b, at, v)
		case 1:
			b = slices.Delete(b, at, at+1)
		case 2:
			b = append(b[:at], v)
		default:
			b[at] = v
		}
	}
	return b
}

// P23.1, P3: bodies that are bent, and then framed anew.
func TestDecodeOfAny(t *testing.T) {
	rnd := rand.New(rand.NewPCG(23, 2))
	told := map[api.Errno]int{}
	for range 100000 {
		told[wantDecode(t, "a bent one", framed(2, bend(rnd, plainBody(metaOf(rnd)))))]++
		b := make([]byte, rnd.IntN(40))
		for i := range b {
			b[i] = byte(rnd.IntN(256) >> rnd.IntN(8))
		}
		wantDecode(t, "any bytes", b)
		wantDecode(t, "any body", framed(2, b))
	}
	if told[api.OK] < 1000 || told[api.ErrCorrupt] < 1000 {
		t.Errorf("told: %v", told)
	}
}

// P23.1: each byte of a body is each other byte, is left out, or has another one ahead.
func TestDecodeOfNear(t *testing.T) {
	body := plainBody(small())
	told := map[api.Errno]int{}
	for at := range len(body) {
		told[wantDecode(t, "one less", framed(2, slices.Delete(slices.Clone(body), at, at+1)))]++
		wantDecode(t, "a beginning", framed(2, body[:at]))
		wantDecode(t, "an end", framed(2, body[at:]))
		for v := range 256 {
			near := slices.Clone(body)
			near[at] = byte(v)
			told[wantDecode(t, "another", framed(2, near))]++
			told[wantDecode(t, "one more", framed(2, slices.Insert(slices.Clone(body), at, byte(v))))]++
		}
	}
	if told[api.OK] < 100 || told[api.ErrCorrupt] < 100 {
		t.Errorf("told: %v", told)
	}
}

// P23.1: a frame alone, of kind 2, from the first byte to the last.
func TestDecodeFrames(t *testing.T) {
	body := plainBody(small())
	for kind := range 256 {
		want := api.ErrCorrupt
		if kind == 2 {
			want = api.OK
		}
		if e := wantDecode(t, "a kind", framed(byte(kind), body)); e != want {
			t.Errorf("Decode of kind %d = %d", kind, e)
		}
	}
	whole := framed(2, body)
	for n := range len(whole) {
		wantDecode(t, "a beginning", whole[:n])
		wantDecode(t, "an end", whole[n+1:])
	}
	for _, b := range [][]byte{nil, {}, {0}, append(slices.Clone(whole), 0), append([]byte{0}, whole...), slices.Concat(whole, whole), framed(2, nil), framed(2, append(slices.Clone(body), 0)), framed(2, slices.Concat(body, body)), framed(2, make([]byte, 65536))} {
		if e := wantDecode(t, "no meta", b); e != api.ErrCorrupt {
			t.Errorf("Decode = %d", e)
		}
	}
}

// P23.1: numbers that would be right ones, if they were cut off to fewer bits, or were written in another form.
func TestDecodeOfFarNumbers(t *testing.T) {
	right := []uint64{5, 8, 0, 4, 10, 1, 1}
	name := []byte("\x01a\x01\x00")
	sets := []uint64{1, 3, 2, 300, 1}
	frameOf := func(head, tail []byte) []byte { return framed(2, slices.Concat(head, name, tail)) }
	if e := wantDecode(t, "right", frameOf(numbers(right...), numbers(sets...))); e != api.OK {
		t.Fatalf("Decode = %d", e)
	}
	for _, add := range []uint64{1 << 32, 1 << 40, 1 << 62, 1 << 63, math.MaxUint64 - 10} {
		for i := range right {
			far := slices.Clone(right)
			far[i] += add
			wantDecode(t, fmt.Sprint("head ", i, " and ", add), frameOf(numbers(far...), numbers(sets...)))
		}
		for i := range sets {
			far := slices.Clone(sets)
			far[i] += add
			wantDecode(t, fmt.Sprint("set ", i, " and ", add), frameOf(numbers(right...), numbers(far...)))
		}
		for _, col := range [][]byte{slices.Concat(number(1+add), []byte("a\x01\x00")), slices.Concat([]byte("\x01a"), numbers(1+add, 0)), slices.Concat([]byte("\x01a"), numbers(1, add))} {
			wantDecode(t, "column", framed(2, slices.Concat(numbers(right...), col, numbers(sets...))))
		}
	}
	for at := range 7 {
		parts := numbers(right...)
		parts[at] |= 0x80
		wantDecode(t, "another form", frameOf(slices.Insert(parts, at+1, 0), numbers(sets...)))
	}
}

// turned turns the bits of a mask from a bit on.
func turned(b []byte, from int, mask uint32) []byte {
	b = slices.Clone(b)
	for i := range 32 {
		if at := from + i; mask>>i&1 == 1 && at < 8*len(b) {
			b[at/8] ^= 1 << (at % 8)
		}
	}
	return b
}

// P23.4, P6: every run of some lengths at every place, and any other run.
func TestTurned(t *testing.T) {
	rnd := rand.New(rand.NewPCG(23, 3))
	whole := written(small())
	for from := range 8 * len(whole) {
		var masks []uint32
		for n := range 32 {
			masks = append(masks, 1<<n|1, math.MaxUint32>>n)
		}
		for range 60 {
			masks = append(masks, rnd.Uint32()|1)
		}
		for _, mask := range masks {
			b := turned(whole, from, mask)
			if m, e := meta.Decode(b); e != api.ErrCorrupt || !isZero(m) {
				t.Fatalf("turned from %d by %x, Decode = %v, %d", from, mask, m, e)
			}
			d, _ := disk.Load(1000, api.File{Name: "super", Data: b})
			if m, ok, e := meta.Load(d); e != api.ErrCorrupt || ok || !isZero(m) {
				t.Fatalf("turned from %d by %x, Load = %v, %t, %d", from, mask, m, ok, e)
			}
		}
	}
}

// P23.5: a meta is neither changed nor kept; what is answered is new memory.
func TestMemory(t *testing.T) {
	rnd := rand.New(rand.NewPCG(23, 4))
	for range 2000 {
		m := metaOf(rnd)
		given := m
		given.Schema.Cols = append(slices.Clone(m.Schema.Cols), make([]api.Column, 5)...)[:len(m.Schema.Cols)]
		given.Sets = append(slices.Clone(m.Sets), make([]api.SetMeta, 5)...)[:len(m.Sets)]
		d := disk.New(10000)
		b, e := meta.Encode(given)
		other, _ := meta.Encode(given)
		saved := meta.Save(d, given)
		_, swept := meta.Sweep(d, given)
		if e != api.OK || saved != api.OK || swept != api.OK {
			t.Fatalf("Encode = %d, Save = %d, Sweep = %d", e, saved, swept)
		}
		if !sameMeta(given, m) || given.Sets[:len(m.Sets)+5][len(m.Sets)+4] != (api.SetMeta{}) {
			t.Fatal("the meta has changed")
		}
		if given.Schema.Cols[:len(m.Schema.Cols)+5][len(m.Schema.Cols)+4] != (api.Column{}) {
			t.Fatal("the room behind the columns has changed")
		}
		wipe(given)
		wipeBytes(other)
		wantDecodeApart(t, b, m)
		first, _, _ := meta.Load(d)
		wipe(first)
		if again, ok, e := meta.Load(d); !sameMeta(again, m) || !ok || e != api.OK {
			t.Fatalf("Load = %v, %t, %d", again, ok, e)
		}
	}
}

// wantDecodeApart decodes bytes that are written over behind it.
func wantDecodeApart(t *testing.T, b []byte, m api.Meta) {
	t.Helper()
	room := append(slices.Clone(b), "room"...)[:len(b)]
	first, _ := meta.Decode(room)
	second, e := meta.Decode(room)
	if !bytes.Equal(room, b) || string(room[:len(b)+4][len(b):]) != "room" {
		t.Fatal("the bytes have changed")
	}
	wipe(first)
	wipeBytes(room)
	if e != api.OK || !sameMeta(second, m) {
		t.Fatalf("Decode = %v, %d; want %v", second, e, m)
	}
}

// wipe writes over all lists of a meta, and their spare room.
func wipe(m api.Meta) {
	cols, sets := m.Schema.Cols[:cap(m.Schema.Cols)], m.Sets[:cap(m.Sets)]
	for i := range cols {
		cols[i] = api.Column{Name: "~", Kind: -77}
	}
	for i := range sets {
		sets[i] = api.SetMeta{Id: -77, Files: -77}
	}
}

func wipeBytes(b []byte) {
	b = b[:cap(b)]
	for i := range b {
		b[i] = '~'
	}
}
