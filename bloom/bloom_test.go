package bloom_test

import (
	"bytes"
	"hash/crc32"
	"hash/fnv"
	"math"
	"math/big"
	"math/rand/v2"
	"slices"
	"strconv"
	"testing"

	"stoa/api"
	"stoa/bloom"
)

// The helpers beneath say in the plainest way what the chapter says, without the layers below.

// plainPut divides by 128 until nothing is left.
func plainPut(u uint64) []byte {
	var b []byte
	for ; u >= 128; u /= 128 {
		b = append(b, byte(u%128)+128)
	}
	return append(b, byte(u))
}

// plainGet takes a number from the beginning of b, and answers what is left.
func plainGet(b []byte) (uint64, []byte, api.Errno) {
	u := new(big.Int)
	for i, c := range b {
		if i == 9 && c > 1 {
			return 0, nil, api.ErrWide
		}
		u.Add(u, new(big.Int).Lsh(big.NewInt(int64(c%128)), uint(7*i)))
		if c == 0 && i > 0 {
			return 0, nil, api.ErrForm
		}
		if c < 128 {
			return u.Uint64(), b[i+1:], api.OK
		}
	}
	return 0, nil, api.ErrShort
}

// sealed is b with the library's sum behind.
func sealed(b []byte) []byte {
	sum := crc32.Checksum(b, crc32.MakeTable(crc32.Castagnoli))
	return append(slices.Clone(b), byte(sum), byte(sum>>8), byte(sum>>16), byte(sum>>24))
}

// plainHash has no bound, but what is left behind a division.
func plainHash(key []byte) *big.Int {
	hash, _ := new(big.Int).SetString("14695981039346656037", 10)
	all := new(big.Int).Exp(big.NewInt(2), big.NewInt(64), nil)
	for _, c := range key {
		hash.Xor(hash, big.NewInt(int64(c)))
		hash.Mul(hash, big.NewInt(1099511628211))
		hash.Mod(hash, all)
	}
	return hash
}

// plainBits are the numbers of the key's six bits.
func plainBits(key []byte, m int) []int {
	b, a := new(big.Int).DivMod(plainHash(key), new(big.Int).Lsh(big.NewInt(1), 32), new(big.Int))
	b.SetBit(b, 0, 1)
	var ks []int
	for i := range 6 {
		k := new(big.Int).Mul(big.NewInt(int64(i)), b)
		k.Add(k, a)
		ks = append(ks, int(k.Mod(k, big.NewInt(int64(m))).Int64()))
	}
	return ks
}

// plainSize is the least multiple of 8 that is no less than 10 a key, 64 at least.
func plainSize(n int) int {
	if n < 0 {
		n = 0
	}
	if n > 4096 {
		n = 4096
	}
	m := 64
	for m < 10*n {
		m += 8
	}
	return m
}

// plain is a filter as the set of its bits.
type plain struct {
	m   int
	set map[int]bool
}

func newPlain(m int) *plain {
	return &plain{m, map[int]bool{}}
}

func (p *plain) add(keys ...[]byte) {
	for _, key := range keys {
		for _, k := range plainBits(key, p.m) {
			p.set[k] = true
		}
	}
}

func (p *plain) has(key []byte) bool {
	for _, k := range plainBits(key, p.m) {
		if !p.set[k] {
			return false
		}
	}
	return true
}

func (p *plain) merge(o *plain) api.Errno {
	if p.m != o.m {
		return api.ErrArg
	}
	for k := range o.set {
		p.set[k] = true
	}
	return api.OK
}

func (p *plain) row() []byte {
	row := make([]byte, p.m/8)
	for k := range p.set {
		row[k/8] += 1 << (k % 8)
	}
	return row
}

func (p *plain) encode() []byte {
	return sealed(append(plainPut(uint64(p.m/8)), p.row()...))
}

func plainDecode(b []byte) (*plain, api.Errno) {
	if len(b) < 4 || !bytes.Equal(sealed(b[:len(b)-4]), b) {
		return nil, api.ErrCorrupt
	}
	size, row, e := plainGet(b[:len(b)-4])
	switch {
	case e != api.OK:
		return nil, e
	case size < 8 || size > 5120:
		return nil, api.ErrForm
	case uint64(len(row)) < size:
		return nil, api.ErrShort
	case uint64(len(row)) > size:
		return nil, api.ErrTrail
	}
	p := newPlain(8 * int(size))
	for k := range p.m {
		if row[k/8]>>(k%8)&1 == 1 {
			p.set[k] = true
		}
	}
	return p, api.OK
}

// wantFilter holds all that a filter tells against the plain one.
func wantFilter(t *testing.T, f *bloom.Filter, p *plain, keys ...[]byte) {
	t.Helper()
	if f.Bits() != p.m || f.Count() != len(p.set) {
		t.Errorf("%d of %d bits are set; want %d of %d", f.Count(), f.Bits(), len(p.set), p.m)
	}
	for _, key := range keys {
		if f.Has(key) != p.has(key) {
			t.Errorf("Has(%x) is %t", key, f.Has(key))
		}
	}
	if b := f.Encode(); !bytes.Equal(b, p.encode()) {
		t.Errorf("Encode = %x; want %x", b, p.encode())
	}
}

// wantDecode holds Decode against the plain reading; what is decoded is written in no other way.
func wantDecode(t *testing.T, b []byte) {
	t.Helper()
	p, wantErr := plainDecode(b)
	f, e := bloom.Decode(b)
	if e != wantErr {
		t.Errorf("Decode(%x) = %d; want %d", b, e, wantErr)
		return
	}
	if e != api.OK {
		if f != nil {
			t.Errorf("Decode(%x) answers a filter beside %d", b, e)
		}
		return
	}
	wantFilter(t, f, p, nil, []byte("a"))
	if !bytes.Equal(f.Encode(), b) {
		t.Errorf("Decode(%x) is written otherwise: %x", b, f.Encode())
	}
}

func wantWrong(t *testing.T, b []byte, wantErr api.Errno) {
	t.Helper()
	if f, e := bloom.Decode(b); f != nil || e != wantErr {
		t.Errorf("Decode(%x) = %v, %d; want %d", b, f, e, wantErr)
	}
	wantDecode(t, b)
}

// someKeys are n keys of all lengths up to 20.
func someKeys(rnd *rand.Rand, n int) [][]byte {
	keys := make([][]byte, n)
	for i := range keys {
		keys[i] = make([]byte, rnd.IntN(21))
		for k := range keys[i] {
			keys[i][k] = byte(rnd.Uint32())
		}
	}
	return keys
}

// P13.1: the chapter's examples, and hashes that are known.
func TestHash(t *testing.T) {
	for _, x := range []struct {
		key  string
		hash uint64
	}{{"", 14695981039346656037}, {"a", 12638187200555641996}, {"foobar", 0x85944171f73967e8}, {"\x00", 0xaf63bd4c8601b7df}} {
		if h := bloom.Hash([]byte(x.key)); h != x.hash {
			t.Errorf("Hash(%q) = %d; want %d", x.key, h, x.hash)
		}
	}
	if bloom.Hash(nil) != 14695981039346656037 || bloom.Hash([]byte{}) != 14695981039346656037 {
		t.Error("the hash of nothing")
	}
	rnd := rand.New(rand.NewPCG(13, 1))
	for _, key := range append(someKeys(rnd, 500), bytes.Repeat([]byte{0xff}, 1000), make([]byte, 1000)) {
		library := fnv.New64a()
		library.Write(key)
		if h := bloom.Hash(key); h != plainHash(key).Uint64() || h != library.Sum64() {
			t.Errorf("Hash(%x) = %d", key, h)
		}
	}
	for c := range 256 {
		for d := range 256 {
			key := []byte{byte(c), byte(d)}
			if h := bloom.Hash(key); h != plainHash(key).Uint64() {
				t.Errorf("Hash(%x) = %d", key, h)
			}
		}
	}
}

// P13.1: how many bits a new filter has, and that none of them is set.
func TestNew(t *testing.T) {
	ns := []int{math.MinInt, math.MinInt + 1, math.MinInt / 10, math.MinInt/10 - 1, math.MinInt/10 - 1000, math.MinInt / 5, math.MinInt / 7, -4096, -11, -10, -2, -1, 4097, 4098, 8192, 1 << 20, math.MaxInt / 10, math.MaxInt/10 + 1, math.MaxInt - 7, math.MaxInt}
	for n := range 4097 {
		ns = append(ns, n)
	}
	for _, n := range ns {
		f := bloom.New(n)
		if f.Bits() != plainSize(n) || f.Count() != 0 {
			t.Errorf("New(%d): %d of %d bits are set; want %d", n, f.Count(), f.Bits(), plainSize(n))
		}
		for _, key := range []string{"", "a", "b", "\x00", "longer"} {
			if f.Has([]byte(key)) {
				t.Errorf("New(%d) has %q", n, key)
			}
		}
	}
	for _, x := range [][2]int{{0, 64}, {1, 64}, {6, 64}, {7, 72}, {8, 80}, {9, 96}, {10, 104}, {11, 112}, {4095, 40952}, {4096, 40960}, {4097, 40960}} {
		if f := bloom.New(x[0]); f.Bits() != x[1] {
			t.Errorf("New(%d).Bits() = %d; want %d", x[0], f.Bits(), x[1])
		}
	}
}

// P13.1: the bits of one key, in filters of all sizes.
func TestOneKey(t *testing.T) {
	rnd := rand.New(rand.NewPCG(13, 2))
	keys := append(someKeys(rnd, 30), nil, []byte("a"), []byte("b"))
	for _, n := range []int{0, 6, 7, 10, 13, 100, 1000, 4095, 4096} {
		for _, key := range keys {
			f, p := bloom.New(n), newPlain(plainSize(n))
			f.Add(key)
			p.add(key)
			wantFilter(t, f, p, keys...)
			// An odd number, taken up to five times, is no multiple of 8: no two of the six fall together.
			if !f.Has(key) || f.Count() != 6 {
				t.Errorf("New(%d) with %x: %d bits", n, key, f.Count())
			}
		}
	}
}

// P13.1: a bit that isn't set, whichever of the six, and the key isn't there.
func TestMissingBit(t *testing.T) {
	rnd := rand.New(rand.NewPCG(13, 3))
	for _, m := range []int{64, 72, 104, 40960} {
		for _, key := range someKeys(rnd, 20) {
			p := newPlain(m)
			for k := range m {
				p.set[k] = true
			}
			for _, k := range plainBits(key, m) {
				delete(p.set, k)
				f, e := bloom.Decode(p.encode())
				if e != api.OK || f.Has(key) {
					t.Errorf("without bit %d of %d: Has(%x), %d", k, m, key, e)
				}
				p.set[k] = true
			}
			f, e := bloom.Decode(p.encode())
			if e != api.OK || !f.Has(key) || f.Count() != m {
				t.Errorf("with all %d bits: not Has(%x), %d", m, key, e)
			}
			// The six of them and no other bit.
			p = newPlain(m)
			p.add(key)
			if f, e := bloom.Decode(p.encode()); e != api.OK || !f.Has(key) {
				t.Errorf("with its bits of %d: not Has(%x), %d", m, key, e)
			}
		}
	}
}

// P13.1: any number of keys in one call, none too.
func TestAddMany(t *testing.T) {
	rnd := rand.New(rand.NewPCG(13, 4))
	for _, n := range []int{0, 1, 2, 3, 10, 100} {
		keys := someKeys(rnd, n)
		f, p := bloom.New(n), newPlain(plainSize(n))
		f.Add(keys...)
		p.add(keys...)
		wantFilter(t, f, p, keys...)
		one := bloom.New(n)
		for _, key := range keys {
			one.Add(key)
		}
		wantFilter(t, one, p, keys...)
	}
	f := bloom.New(3)
	f.Add()
	f.Add([][]byte{}...)
	wantFilter(t, f, newPlain(64), nil)
	f.Add(nil)
	p := newPlain(64)
	p.add([]byte{})
	wantFilter(t, f, p, nil, []byte{}, []byte{0})
	// Many more keys than the filter is for.
	keys := someKeys(rnd, 2000)
	f, p = bloom.New(0), newPlain(64)
	f.Add(keys...)
	p.add(keys...)
	wantFilter(t, f, p, keys[:100]...)
	if f.Count() != 64 {
		t.Errorf("%d bits are set", f.Count())
	}
}

// P13.1, P13.2: as many keys as a filter can be for: few others seem to be there.
func TestFullFilter(t *testing.T) {
	f := bloom.New(4096)
	for i := range 4096 {
		f.Add([]byte(strconv.Itoa(i)))
	}
	seem := 0
	for i := range 4096 {
		if !f.Has([]byte(strconv.Itoa(i))) {
			t.Errorf("%d isn't had", i)
		}
		if f.Has([]byte(strconv.Itoa(10000 + i))) {
			seem++
		}
	}
	if seem > 200 {
		t.Errorf("%d of 4096 that aren't there seem to be", seem)
	}
}

// P13.1: filters of unlike sizes aren't merged, and nothing is changed.
func TestMergeSizes(t *testing.T) {
	sizes := []int{0, 7, 8, 10, 4095, 4096}
	for _, x := range sizes {
		for _, y := range sizes {
			f, o := bloom.New(x), bloom.New(y)
			p, q := newPlain(plainSize(x)), newPlain(plainSize(y))
			f.Add([]byte("a"))
			o.Add([]byte("b"))
			p.add([]byte("a"))
			q.add([]byte("b"))
			if e := f.Merge(o); e != p.merge(q) {
				t.Errorf("Merge of %d and %d keys: %d", x, y, e)
			}
			wantFilter(t, f, p, []byte("a"), []byte("b"))
			wantFilter(t, o, q, []byte("a"), []byte("b"))
		}
	}
	// Other numbers of keys may make as many bits.
	if e := bloom.New(0).Merge(bloom.New(6)); e != api.OK {
		t.Errorf("Merge = %d", e)
	}
	f := bloom.New(1)
	f.Add([]byte("a"))
	p := newPlain(64)
	p.add([]byte("a"))
	if e := f.Merge(f); e != api.OK {
		t.Errorf("Merge of itself = %d", e)
	}
	wantFilter(t, f, p, []byte("a"), []byte("b"))
}

// P13.3: in another order, twice, or in two filters that are merged: the same filter.
func TestOrder(t *testing.T) {
	rnd := rand.New(rand.NewPCG(13, 5))
	for range 50 {
		keys := someKeys(rnd, rnd.IntN(40))
		n := rnd.IntN(50)
		f := bloom.New(n)
		f.Add(keys...)
		want := f.Encode()

		other := slices.Concat(keys, keys)
		rnd.Shuffle(len(other), func(i, j int) { other[i], other[j] = other[j], other[i] })
		g := bloom.New(n)
		g.Add(other...)
		if !bytes.Equal(g.Encode(), want) {
			t.Errorf("another order makes another filter")
		}

		cut := rnd.IntN(len(keys) + 1)
		first, second := bloom.New(n), bloom.New(n)
		first.Add(keys[:cut]...)
		second.Add(keys[cut:]...)
		merged := second.Encode()
		if e := first.Merge(second); e != api.OK || !bytes.Equal(first.Encode(), want) {
			t.Errorf("merged it is another filter: %d", e)
		}
		if !bytes.Equal(second.Encode(), merged) {
			t.Errorf("what is merged changes")
		}
	}
}

// P13.1, P13.2: calls in any order, over several filters.
func TestAnyOrderOfCalls(t *testing.T) {
	rnd := rand.New(rand.NewPCG(13, 6))
	stock := someKeys(rnd, 40)
	for range 20 {
		var fs []*bloom.Filter
		var ps []*plain
		added := map[int]map[string]bool{}
		for i := range 5 {
			n := []int{0, 5, 7, 30}[rnd.IntN(4)]
			fs = append(fs, bloom.New(n))
			ps = append(ps, newPlain(plainSize(n)))
			added[i] = map[string]bool{}
		}
		for range 60 {
			i, j := rnd.IntN(5), rnd.IntN(5)
			switch rnd.IntN(4) {
			case 0, 1:
				key := stock[rnd.IntN(len(stock))]
				fs[i].Add(key)
				ps[i].add(key)
				added[i][string(key)] = true
			case 2:
				e := fs[i].Merge(fs[j])
				if e != ps[i].merge(ps[j]) {
					t.Errorf("Merge of %d and %d bits: %d", ps[i].m, ps[j].m, e)
				}
				if e == api.OK {
					for key := range added[j] {
						added[i][key] = true
					}
				}
			case 3:
				f, e := bloom.Decode(fs[i].Encode())
				if e != api.OK {
					t.Fatalf("Decode: %d", e)
				}
				fs[i] = f
			}
			for k := range fs {
				wantFilter(t, fs[k], ps[k], stock[rnd.IntN(len(stock))])
			}
		}
		for i := range fs {
			wantFilter(t, fs[i], ps[i], stock...)
			for key := range added[i] {
				if !fs[i].Has([]byte(key)) {
					t.Errorf("%x was added, and isn't had", key)
				}
			}
		}
	}
}

// P13.1: filters written by hand, and read.
func TestEncode(t *testing.T) {
	f := bloom.New(0)
	want := sealed([]byte("\x08\x00\x00\x00\x00\x00\x00\x00\x00"))
	if b := f.Encode(); !bytes.Equal(b, want) {
		t.Errorf("Encode = %x; want %x", b, want)
	}
	// The hash of "a" is af63dc4c8601ec8c: a is 8601ec8c, b af63dc4d; the bits are 12, 25, 38, 51, 0 and 13 in 64.
	f.Add([]byte("a"))
	want = sealed([]byte("\x08\x01\x30\x00\x02\x40\x00\x08\x00"))
	if b := f.Encode(); !bytes.Equal(b, want) {
		t.Errorf("Encode = %x; want %x", b, want)
	}
	wantDecode(t, want)
	for _, n := range []int{0, 100, 102, 103, 4096} {
		b := bloom.New(n).Encode()
		size := plainSize(n) / 8
		if len(b) != len(plainPut(uint64(size)))+size+4 {
			t.Errorf("New(%d) is written in %d bytes", n, len(b))
		}
		wantDecode(t, b)
	}
}

// P13.1: as many bytes as there can be, and one more or fewer; the number ahead of the bytes behind it.
func TestDecodeSizes(t *testing.T) {
	for _, size := range []uint64{0, 1, 7, 5121, 5122, 40960, 1 << 31, 1 << 32, 1<<32 + 8, 1<<32 + 9, 1 << 61, 1<<61 + 8, 1 << 63, math.MaxUint64} {
		head := plainPut(size)
		wantWrong(t, sealed(head), api.ErrForm)
		wantWrong(t, sealed(append(head, make([]byte, min(size, 6000))...)), api.ErrForm)
		wantWrong(t, sealed(append(head, make([]byte, 8)...)), api.ErrForm)
	}
	for _, size := range []int{8, 9, 10, 126, 127, 128, 129, 5119, 5120} {
		head := plainPut(uint64(size))
		for _, row := range [][]byte{make([]byte, size), bytes.Repeat([]byte{0xff}, size), bytes.Repeat([]byte{0x5a}, size)} {
			wantDecode(t, sealed(slices.Concat(head, row)))
			if f, e := bloom.Decode(sealed(slices.Concat(head, row))); e != api.OK || f.Bits() != 8*size {
				t.Errorf("%d bytes: %d", size, e)
			}
			for _, cut := range []int{0, 1, size / 2, size - 1} {
				wantWrong(t, sealed(slices.Concat(head, row[:cut])), api.ErrShort)
			}
			wantWrong(t, sealed(slices.Concat(head, row, []byte{0})), api.ErrTrail)
			wantWrong(t, sealed(slices.Concat(head, row, row)), api.ErrTrail)
		}
	}
}

// P1, P13.1: the errors of the sum and of the number, ahead of those behind them.
func TestDecodeOrder(t *testing.T) {
	row := string(make([]byte, 8))
	for _, b := range []string{"", "\x00", "\x00\x00\x00", "\x08" + row, "\x00\x00\x00\x00\x00", "\x07\x00\x00\x00\x00", "\x80\x00\x00\x00\x00\x00"} {
		wantWrong(t, []byte(b), api.ErrCorrupt)
	}
	wantWrong(t, nil, api.ErrCorrupt)
	wide := string(bytes.Repeat([]byte{0xff}, 9)) + "\x02"
	for _, x := range []struct {
		b string
		e api.Errno
	}{
		{"", api.ErrShort}, {"\x80", api.ErrShort}, {"\x88", api.ErrShort},
		{"\x80\x00", api.ErrForm}, {"\x88\x00" + row, api.ErrForm}, {"\x87\x00", api.ErrForm},
		{wide, api.ErrWide}, {wide + row, api.ErrWide},
		{"\x07" + row, api.ErrForm}, {"\x00", api.ErrForm}, {"\x07", api.ErrForm}, {"\x81\x28", api.ErrForm},
		{"\x08", api.ErrShort}, {"\x08" + row[1:], api.ErrShort}, {"\x80\x28" + row, api.ErrShort},
		{"\x08" + row + row, api.ErrTrail}, {"\x08" + row + "\x00", api.ErrTrail},
	} {
		b := sealed([]byte(x.b))
		wantWrong(t, b, x.e)
		b[len(b)-4] ^= 0x20
		wantWrong(t, b, api.ErrCorrupt)
	}
}

// P13.1, P3: all short bytes ahead of a right sum, and some filters with every bit turned.
func TestDecodeAll(t *testing.T) {
	row := []byte("\x01\x20\x00\xff\x80\x7f\x00\x02")
	for c := range 256 {
		wantDecode(t, sealed([]byte{byte(c)}))
		wantDecode(t, sealed(append([]byte{byte(c)}, row...)))
		wantDecode(t, sealed(slices.Concat([]byte{8}, row[:7], []byte{byte(c)})))
		wantDecode(t, sealed(slices.Concat([]byte{9}, row, []byte{byte(c)})))
		for d := range 256 {
			wantDecode(t, sealed([]byte{byte(c), byte(d)}))
			wantDecode(t, []byte{byte(c), byte(d)})
		}
	}
	for _, n := range []int{0, 10, 15} {
		f := bloom.New(n)
		f.Add([]byte("a"), []byte("b"))
		b := f.Encode()
		for n := range b {
			wantWrong(t, b[:n], api.ErrCorrupt)
		}
		body := b[:len(b)-4]
		for n := range body {
			wantWrong(t, sealed(body[:n]), api.ErrShort)
		}
		for k := range 8 * len(b) {
			turned := slices.Clone(b)
			turned[k/8] ^= 1 << (k % 8)
			wantWrong(t, turned, api.ErrCorrupt)
			if k < 8*len(body) {
				wantDecode(t, sealed(turned[:len(body)]))
			}
		}
	}
}

const mark = 0xa5

// roomy is a text with room behind it that is filled.
func roomy(b []byte) []byte {
	all := slices.Concat(b, bytes.Repeat([]byte{mark}, 9))
	return all[:len(b)]
}

func isMarked(b []byte) bool {
	return bytes.Equal(b, bytes.Repeat([]byte{mark}, len(b)))
}

// P13.4: neither what is handed in is changed, nor what lies behind its length.
func TestArgumentsStay(t *testing.T) {
	wantStay := func(given []byte, want string) {
		t.Helper()
		if string(given) != want || !isMarked(given[len(given):len(given)+9]) {
			t.Errorf("%x changed: %x", want, given[:len(given)+9])
		}
	}
	keys := [][]byte{roomy([]byte("a")), roomy([]byte("bc")), roomy(nil), roomy([]byte("a"))}
	f := bloom.New(4)
	f.Add(keys[:3]...)
	for i, want := range []string{"a", "bc", "", "a"} {
		f.Has(keys[i])
		bloom.Hash(keys[i])
		wantStay(keys[i], want)
	}
	b := f.Encode()
	for n := range len(b) + 1 {
		for _, part := range [][]byte{b[:n], sealed(b[:n])} {
			given := roomy(part)
			g, e := bloom.Decode(given)
			if e == api.OK {
				g.Add([]byte("another"))
				g.Merge(f)
			}
			wantStay(given, string(part))
		}
	}
}

// fill writes over a list and its spare room.
func fill(b []byte, c byte) {
	b = b[:cap(b)]
	for i := range b {
		b[i] = c
	}
}

// P13.4: nothing that is handed in is kept, and nothing that is answered is seen again.
func TestNothingIsKept(t *testing.T) {
	f, p := bloom.New(10), newPlain(104)
	key := []byte("key")
	f.Add(key)
	p.add([]byte("key"))
	fill(key, mark)
	wantFilter(t, f, p, key, []byte("key"))

	b := f.Encode()
	g, e := bloom.Decode(b)
	if e != api.OK {
		t.Fatalf("Decode: %d", e)
	}
	fill(b, 0xff)
	wantFilter(t, f, p, key, []byte("key"))
	wantFilter(t, g, p, key, []byte("key"))

	x, y := f.Encode(), f.Encode()
	fill(x, 0)
	if !bytes.Equal(y, p.encode()) {
		t.Errorf("two answers share: %x", y)
	}
}

// P13.4: two filters share nothing, however they were made.
func TestFiltersShareNothing(t *testing.T) {
	a, b, c := []byte("a"), []byte("b"), []byte("c")
	f, o := bloom.New(10), bloom.New(10)
	o.Add(b)
	f.Add(a)
	g, _ := bloom.Decode(f.Encode())
	written := f.Encode()
	h, _ := bloom.Decode(written)
	i, _ := bloom.Decode(written)
	f.Merge(o)
	g.Add(c)
	h.Merge(o)
	want := func(name string, f *bloom.Filter, keys ...[]byte) {
		t.Helper()
		p := newPlain(104)
		p.add(keys...)
		wantFilter(t, f, p, a, b, c)
	}
	want("f", f, a, b)
	want("o", o, b)
	want("g", g, a, c)
	want("h", h, a, b)
	want("i", i, a)
	o.Add(c)
	want("f", f, a, b)
	want("h", h, a, b)
	f.Add([]byte("more"))
	want("o", o, b, c)
	want("h", h, a, b)
}

// P2: asked again, the same; asking changes nothing.
func TestAskedAgain(t *testing.T) {
	rnd := rand.New(rand.NewPCG(13, 7))
	keys := someKeys(rnd, 30)
	f, p := bloom.New(20), newPlain(200)
	f.Add(keys[:20]...)
	p.add(keys[:20]...)
	for range 5 {
		wantFilter(t, f, p, keys...)
		bloom.New(20).Add(keys...)
		f.Merge(bloom.New(0))
		f.Merge(bloom.New(20))
		f.Add()
	}
}
