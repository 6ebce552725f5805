package prefix_test

import (
	"bytes"
	"math"
	"math/big"
	"math/rand/v2"
	"slices"
	"sort"
	"testing"

	"stoa/api"
	"stoa/prefix"
)

// The helpers beneath say in the plainest way what the chapter says, without the layers below.

// plainPut divides by 128 until nothing is left.
func plainPut(u uint64) []byte {
	var b []byte
	for ; u >= 128; u /= 128 {
		b = append(b, byte(u%128)+128)
	}
	return append(b, byte(u))
}

// plainGet takes a number from the beginning of b, and answers what is left.
func plainGet(b []byte) (uint64, []byte, api.Errno) {
	u := new(big.Int)
	for i, c := range b {
		if i == 9 && c > 1 {
			return 0, nil, api.ErrWide
		}
		u.Add(u, new(big.Int).Lsh(big.NewInt(int64(c%128)), uint(7*i)))
		if c == 0 && i > 0 {
			return 0, nil, api.ErrForm
		}
		if c < 128 {
			return u.Uint64(), b[i+1:], api.OK
		}
	}
	return 0, nil, api.ErrShort
}

// plainAhead: x stands ahead of y, by the first byte that is unlike, or as its beginning.
func plainAhead(x, y []byte) bool {
	for i := range min(len(x), len(y)) {
		if x[i] != y[i] {
			return x[i] < y[i]
		}
	}
	return len(x) < len(y)
}

// plainSame is the longest beginning that both have, tried from the longest on.
func plainSame(x, y []byte) int {
	for n := min(len(x), len(y)); n > 0; n-- {
		if bytes.Equal(x[:n], y[:n]) {
			return n
		}
	}
	return 0
}

// part is a text as it is written: how much is the same, how many further bytes are told, and what stands there.
type part struct {
	same, rest uint64
	b          string
}

// written is so many texts, told by these parts, and what stands behind them.
func written(count uint64, parts []part, behind ...byte) []byte {
	b := plainPut(count)
	for _, p := range parts {
		b = slices.Concat(b, plainPut(p.same), plainPut(p.rest), []byte(p.b))
	}
	return append(b, behind...)
}

// whole is a text of which nothing is the same.
func whole(s string) part {
	return part{0, uint64(len(s)), s}
}

func plainParts(ss [][]byte) []part {
	var parts []part
	for i, s := range ss {
		same := 0
		if i%16 != 0 {
			same = plainSame(ss[i-1], s)
		}
		parts = append(parts, part{uint64(same), uint64(len(s) - same), string(s[same:])})
	}
	return parts
}

func plainEncode(ss [][]byte) []byte {
	return written(uint64(len(ss)), plainParts(ss))
}

func plainDecode(b []byte) ([][]byte, api.Errno) {
	n, b, e := plainGet(b)
	if e != api.OK {
		return nil, e
	}
	if n > 4096 {
		return nil, api.ErrLong
	}
	var ss [][]byte
	for i := range int(n) {
		var same, rest uint64
		same, b, e = plainGet(b)
		if e != api.OK {
			return nil, e
		}
		rest, b, e = plainGet(b)
		if e != api.OK {
			return nil, e
		}
		if i%16 == 0 && same != 0 || i > 0 && same > uint64(len(ss[i-1])) {
			return nil, api.ErrForm
		}
		all := new(big.Int).Add(new(big.Int).SetUint64(same), new(big.Int).SetUint64(rest))
		if all.Cmp(big.NewInt(200)) > 0 {
			return nil, api.ErrLong
		}
		if uint64(len(b)) < rest {
			return nil, api.ErrShort
		}
		s := slices.Clone(b[:rest])
		if i%16 != 0 {
			s = slices.Concat(ss[i-1][:same], s)
			if plainSame(ss[i-1], s) != int(same) {
				return nil, api.ErrForm
			}
		}
		ss = append(ss, s)
		b = b[rest:]
	}
	if len(b) > 0 {
		return nil, api.ErrTrail
	}
	return ss, api.OK
}

// plainPlace counts the texts up to the first that doesn't stand ahead.
func plainPlace(ss [][]byte, s []byte) int {
	for i, x := range ss {
		if !plainAhead(x, s) {
			return i
		}
	}
	return len(ss)
}

func texts(ss ...string) [][]byte {
	var out [][]byte
	for _, s := range ss {
		out = append(out, []byte(s))
	}
	return out
}

// someTexts are n texts, each with a beginning of the one ahead.
func someTexts(rnd *rand.Rand, n int) [][]byte {
	var ss [][]byte
	var ahead []byte
	for range n {
		s := slices.Clone(ahead[:rnd.IntN(len(ahead)+1)])
		for range rnd.IntN(4) {
			s = append(s, []byte{0x00, 0x61, 0x7f, 0x80, 0xff, byte(rnd.Uint32())}[rnd.IntN(6)])
		}
		ss = append(ss, s)
		ahead = s
	}
	return ss
}

// inOrder sorts texts by their bytes.
func inOrder(ss [][]byte) [][]byte {
	ss = slices.Clone(ss)
	sort.SliceStable(ss, func(i, j int) bool { return plainAhead(ss[i], ss[j]) })
	return ss
}

// around is each text, those close to it, and some others.
func around(ss [][]byte) [][]byte {
	out := [][]byte{nil, {}, {0x00}, {0xff}, bytes.Repeat([]byte{0xff}, 200), bytes.Repeat([]byte("a"), 201), bytes.Repeat([]byte{0xff}, 1000)}
	for _, s := range ss {
		out = append(out, s, slices.Concat(s, []byte{0x00}), slices.Concat(s, []byte{0xff}))
		if len(s) == 0 {
			continue
		}
		cut := slices.Clone(s[:len(s)-1])
		out = append(out, cut, append(slices.Clone(cut), s[len(s)-1]-1), append(slices.Clone(cut), s[len(s)-1]+1))
	}
	return out
}

func cloned(ss [][]byte) [][]byte {
	ss = slices.Clone(ss)
	for i := range ss {
		ss[i] = bytes.Clone(ss[i])
	}
	return ss
}

func equal(x, y [][]byte) bool {
	return slices.EqualFunc(x, y, bytes.Equal)
}

func wantEncode(t *testing.T, ss [][]byte, want []byte, wantErr api.Errno) {
	t.Helper()
	b, e := prefix.Encode(ss...)
	if !bytes.Equal(b, want) || e != wantErr {
		t.Errorf("Encode(%q) = %x, %d; want %x, %d", ss, b, e, want, wantErr)
	}
}

func wantDecode(t *testing.T, b []byte, want [][]byte, wantErr api.Errno) {
	t.Helper()
	ss, e := prefix.Decode(b)
	if !equal(ss, want) || e != wantErr {
		t.Errorf("Decode(%x) = %q, %d; want %q, %d", b, ss, e, want, wantErr)
	}
}

func wantSeek(t *testing.T, b, s []byte, want int, wantErr api.Errno) {
	t.Helper()
	n, e := prefix.Seek(b, s)
	if n != want || e != wantErr {
		t.Errorf("Seek(%x, %q) = %d, %d; want %d, %d", b, s, n, e, want, wantErr)
	}
}

// wantWrong: neither Decode nor Seek reads b, whatever is sought.
func wantWrong(t *testing.T, b []byte, wantErr api.Errno) {
	t.Helper()
	wantDecode(t, b, nil, wantErr)
	wantSeek(t, b, nil, 0, wantErr)
	wantSeek(t, b, []byte{0xff, 0xff}, 0, wantErr)
}

// wantAll holds all three calls for the texts against the plain readings, there and back.
func wantAll(t *testing.T, ss [][]byte) {
	t.Helper()
	b := plainEncode(ss)
	wantEncode(t, ss, b, api.OK)
	wantDecode(t, b, ss, api.OK)
	for _, s := range around(ss[:min(len(ss), 4)]) {
		wantSeek(t, b, s, plainPlace(ss, s), api.OK)
	}
}

// wantOnly holds Decode and Seek against the plain readings; what is decoded is written in no other way.
func wantOnly(t *testing.T, b []byte) {
	t.Helper()
	want, wantErr := plainDecode(b)
	wantDecode(t, b, want, wantErr)
	for _, s := range texts("", "\x01", "a", "\xff\xff") {
		wantSeek(t, b, s, plainPlace(want, s), wantErr)
	}
	if wantErr == api.OK {
		wantEncode(t, want, b, api.OK)
	}
}

// P11.1: the chapter's examples, and others worked out by hand.
func TestExamples(t *testing.T) {
	for _, x := range []struct {
		ss [][]byte
		b  string
	}{
		{texts("ab", "abc", "b"), "\x03\x00\x02ab\x02\x01c\x00\x01b"},
		{texts(""), "\x01\x00\x00"},
		{texts("a"), "\x01\x00\x01a"},
		{texts("", ""), "\x02\x00\x00\x00\x00"},
		{texts("a", "a"), "\x02\x00\x01a\x01\x00"},
		{texts("a", "", "a"), "\x03\x00\x01a\x00\x00\x00\x01a"},
		{texts("abc", "ab", "abd", "xb"), "\x04\x00\x03abc\x02\x00\x02\x01d\x00\x02xb"},
		{texts("\xff\x00", "\xff\x00\x00"), "\x02\x00\x02\xff\x00\x02\x01\x00"},
	} {
		wantEncode(t, x.ss, []byte(x.b), api.OK)
		wantDecode(t, []byte(x.b), x.ss, api.OK)
	}
	b := []byte("\x03\x00\x02ab\x02\x01c\x00\x01b")
	for _, x := range []struct {
		s string
		n int
	}{{"abb", 1}, {"", 0}, {"a", 0}, {"ab", 0}, {"ab\x00", 1}, {"abc", 1}, {"abc\x00", 2}, {"b", 2}, {"b\x00", 3}, {"c", 3}} {
		wantSeek(t, b, []byte(x.s), x.n, api.OK)
	}
	wantWrong(t, []byte("\x02\x00\x01a\x00\x01a"), api.ErrForm)
}

// P11.1: no texts.
func TestNothing(t *testing.T) {
	wantEncode(t, nil, []byte{0x00}, api.OK)
	wantEncode(t, [][]byte{}, []byte{0x00}, api.OK)
	wantDecode(t, []byte{0x00}, nil, api.OK)
	for _, s := range texts("", "a", "\xff") {
		wantSeek(t, []byte{0x00}, s, 0, api.OK)
	}
	wantSeek(t, []byte{0x00}, nil, 0, api.OK)
	wantWrong(t, nil, api.ErrShort)
	wantWrong(t, []byte{}, api.ErrShort)
	for c := range 256 {
		wantWrong(t, []byte{0x00, byte(c)}, api.ErrTrail)
	}
}

// P11.1: a text that is nil is an empty one.
func TestNilText(t *testing.T) {
	wantEncode(t, [][]byte{nil, {}, []byte("a"), nil}, plainEncode(texts("", "", "a", "")), api.OK)
	b := plainEncode(texts("", "a"))
	wantSeek(t, b, nil, 0, api.OK)
	wantSeek(t, b, []byte{}, 0, api.OK)
}

// P11.1: the texts 0, 16, 32 and so on stand whole, the others never.
func TestWholeTexts(t *testing.T) {
	want := plainPut(100)
	for i := range 100 {
		if i == 0 || i == 16 || i == 32 || i == 48 || i == 64 || i == 80 || i == 96 {
			want = append(want, "\x00\x02qr"...)
		} else {
			want = append(want, "\x02\x00"...)
		}
	}
	ss := slices.Repeat(texts("qr"), 100)
	wantEncode(t, ss, want, api.OK)
	wantDecode(t, want, ss, api.OK)
	for i := range 100 {
		parts := plainParts(ss)
		// At these places the other form is the wrong one.
		if i%16 == 0 {
			parts[i] = part{2, 0, ""}
		} else {
			parts[i] = whole("qr")
		}
		wantWrong(t, written(100, parts), api.ErrForm)
		parts[i] = part{1, 1, "r"}
		wantWrong(t, written(100, parts), api.ErrForm)
	}
	// Behind a whole text as many bytes are the same as can be.
	for i := range 100 {
		other := slices.Clone(ss)
		other[i] = []byte("qs")
		wantAll(t, other)
		other[i] = nil
		wantAll(t, other)
	}
}

// P11.1: the same part as long as the text ahead, and longer.
func TestSamePart(t *testing.T) {
	for n := range 200 {
		s := string(bytes.Repeat([]byte("x"), n))
		b := written(2, []part{whole(s), {uint64(n), 1, "y"}})
		wantDecode(t, b, texts(s, s+"y"), api.OK)
		wantSeek(t, b, []byte(s+"x"), 1, api.OK)
		wantDecode(t, written(2, []part{whole(s), {uint64(n), 0, ""}}), texts(s, s), api.OK)
		for _, same := range []uint64{uint64(n) + 1, 201, 1 << 32, 1<<32 + uint64(n), math.MaxInt64, 1 << 63, math.MaxUint64} {
			wantWrong(t, written(2, []part{whole(s), {same, 1, "y"}}), api.ErrForm)
			wantWrong(t, written(2, []part{whole(s), {same, 0, ""}}), api.ErrForm)
		}
		for same := range n {
			wantDecode(t, written(2, []part{whole(s), {uint64(same), 0, ""}}), texts(s, s[:same]), api.OK)
			wantDecode(t, written(2, []part{whole(s), {uint64(same), 1, "y"}}), texts(s, s[:same]+"y"), api.OK)
			wantWrong(t, written(2, []part{whole(s), {uint64(same), 1, "x"}}), api.ErrForm)
			wantWrong(t, written(2, []part{whole(s), {uint64(same), 2, "xy"}}), api.ErrForm)
		}
	}
	for _, same := range []uint64{1, 2, 200, 201, 1 << 32, 1 << 63, math.MaxUint64} {
		wantWrong(t, written(1, []part{{same, 0, ""}}), api.ErrForm)
		wantWrong(t, written(1, []part{{same, 1, "a"}}), api.ErrForm)
		ss := slices.Repeat(texts("qr"), 16)
		wantWrong(t, written(17, append(plainParts(ss), part{same, 1, "z"})), api.ErrForm)
	}
}

// P11.1: as many texts as may be, and one more.
func TestManyTexts(t *testing.T) {
	rnd := rand.New(rand.NewPCG(11, 1))
	for _, n := range []int{127, 128, 4095, 4096} {
		wantAll(t, slices.Repeat(texts("q"), n))
		wantAll(t, slices.Repeat(texts(""), n))
		wantAll(t, someTexts(rnd, n)[:n])
	}
	b := plainEncode(slices.Repeat(texts("q"), 4096))
	wantSeek(t, b, []byte("q"), 0, api.OK)
	wantSeek(t, b, []byte("r"), 4096, api.OK)
	for _, n := range []int{4097, 4098, 1 << 17} {
		wantEncode(t, slices.Repeat(texts("q"), n), nil, api.ErrLong)
		wantEncode(t, make([][]byte, n), nil, api.ErrLong)
	}
	wantWrong(t, plainEncode(slices.Repeat(texts("q"), 4097)), api.ErrLong)
	for _, count := range []uint64{4097, 4098, 1 << 31, 1 << 32, 1<<32 + 1, 1 << 63, math.MaxUint64} {
		wantWrong(t, plainPut(count), api.ErrLong)
		wantWrong(t, written(count, []part{whole("q")}), api.ErrLong)
	}
}

// P11.1: texts as long as may be, and longer, whole and in two parts.
func TestLongTexts(t *testing.T) {
	for _, n := range []int{126, 127, 128, 199, 200} {
		s := bytes.Repeat([]byte("x"), n)
		wantAll(t, [][]byte{s})
		wantAll(t, [][]byte{s, s, s[1:], s[:n-1], []byte("w"), s, append(slices.Clone(s[1:]), 'y')})
	}
	for _, n := range []int{201, 202, 255, 256, 65536, 1 << 20} {
		s := bytes.Repeat([]byte("x"), n)
		wantEncode(t, [][]byte{s}, nil, api.ErrLong)
		for at := range 4 {
			wantEncode(t, slices.Insert(texts("a", "b", "c"), at, s), nil, api.ErrLong)
		}
		wantWrong(t, written(1, []part{whole(string(s))}), api.ErrLong)
	}
	for _, same := range []int{0, 1, 100, 199, 200} {
		ahead := string(bytes.Repeat([]byte("x"), same))
		room := bytes.Repeat([]byte("y"), 200-same)
		wantDecode(t, written(2, []part{whole(ahead), {uint64(same), uint64(200 - same), string(room)}}), texts(ahead, ahead+string(room)), api.OK)
		for _, rest := range []uint64{uint64(201 - same), 201, 1 << 31, 1 << 32, 1<<32 + 1, math.MaxInt64, 1 << 63, math.MaxUint64 - uint64(same), math.MaxUint64 - uint64(same) + 1, math.MaxUint64} {
			if rest == 0 {
				continue
			}
			wantWrong(t, written(2, []part{whole(ahead), {uint64(same), rest, string(room) + "yy"}}), api.ErrLong)
			wantWrong(t, written(2, []part{whole(ahead), {uint64(same), rest, ""}}), api.ErrLong)
		}
	}
	ss := make([][]byte, 4096)
	for i := range ss {
		ss[i] = append(bytes.Repeat([]byte{0xff}, 198), byte(i>>8), byte(i))
	}
	wantAll(t, ss)
	slices.Reverse(ss)
	wantAll(t, ss)
}

// P11.1: the error of each number of the bytes.
func TestDecodeNumbers(t *testing.T) {
	wide := append(bytes.Repeat([]byte{0xff}, 9), 0x02)
	for _, x := range []struct {
		b []byte
		e api.Errno
	}{{nil, api.ErrShort}, {[]byte{0x80}, api.ErrShort}, {[]byte{0x80, 0x00}, api.ErrForm}, {[]byte{0x81, 0x00}, api.ErrForm}, {wide, api.ErrWide}} {
		for _, ahead := range []string{"", "\x01", "\x01\x00", "\x02\x00\x01a", "\x02\x00\x01a\x01", "\x02\x00\x01a\x00", "\x80\x20\x00\x01a\x01"} {
			wantWrong(t, slices.Concat([]byte(ahead), x.b), x.e)
		}
	}
}

// P1, P11.1: where several errors apply, the one named first.
func TestDecodeOrder(t *testing.T) {
	for _, x := range []struct {
		b string
		e api.Errno
	}{
		{"\x81\x20\x80\x00", api.ErrLong}, // 4097 texts, a number in two forms
		{"\x01\x01", api.ErrShort},        // not 0, and no length of the rest
		{"\x01\x01\x80", api.ErrShort},    // not 0, half a length
		{"\x01\x01\xff\xff\xff\xff\xff\xff\xff\xff\xff\x02", api.ErrWide},
		{"\x02\x00\x01a\x02\xff\xff\xff\xff\xff\xff\xff\xff\xff\x02", api.ErrWide},
		{"\x02\x00\x01a\x02", api.ErrShort},             // longer than the text ahead, and no length
		{"\x01\x01\xc9\x01", api.ErrForm},               // not 0, too long
		{"\x01\x01\x02a", api.ErrForm},                  // not 0, a byte too few
		{"\x02\x00\x01a\x02\xc9\x01", api.ErrForm},      // longer than the text ahead, too long
		{"\x02\x00\x01a\x02\x02a", api.ErrForm},         // longer than the text ahead, a byte too few
		{"\x01\x00\xc9\x01", api.ErrLong},               // too long, and short
		{"\x02\x00\x01a\x01\xc8\x01", api.ErrLong},      // 201 bytes in two parts, and short
		{"\x02\x00\x01a\x00\x02a", api.ErrShort},        // it could be longer, a byte too few
		{"\x02\x00\x01a\x00\x01a\x00", api.ErrForm},     // it could be longer, a byte too many
		{"\x03\x00\x01a\x00\x01a\x80\x00", api.ErrForm}, // it could be longer, ahead of a wrong number
		{"\x03\x00\x01a\x00\x01a", api.ErrForm},         // it could be longer, and no third text
		{"\x03\x00\x01a\x00\x01a\x09\x00", api.ErrForm},
		{"\x03\x00\x01a\x00\x01a\x00\xc9\x01", api.ErrForm},
		{"\x01\x00\x01a\x80\x00", api.ErrTrail},
		{"\x01\x00\x00\x00", api.ErrTrail},
	} {
		wantWrong(t, []byte(x.b), x.e)
		wantOnly(t, []byte(x.b))
	}
	long := written(2, []part{whole(string(bytes.Repeat([]byte("x"), 200))), {199, 2, "xy"}})
	wantWrong(t, long, api.ErrLong) // it could be longer, too long
}

// P11.2, P3: every beginning of what is encoded is short, and everything with a byte behind it trails.
func TestDecodeCut(t *testing.T) {
	rnd := rand.New(rand.NewPCG(11, 2))
	for _, ss := range [][][]byte{texts("ab", "abc", "b"), texts("a"), texts("", "", "x"), someTexts(rnd, 60), slices.Repeat(texts("qr"), 130), {bytes.Repeat([]byte("x"), 200)}} {
		b := plainEncode(ss)
		for n := range len(b) {
			wantWrong(t, b[:n], api.ErrShort)
		}
		for c := range 256 {
			wantWrong(t, append(slices.Clone(b), byte(c)), api.ErrTrail)
		}
	}
}

// P11.3: of texts in order the place of each text, and of those that aren't there.
func TestSeekInOrder(t *testing.T) {
	rnd := rand.New(rand.NewPCG(11, 3))
	for range 100 {
		ss := inOrder(someTexts(rnd, rnd.IntN(70)))
		b, e := prefix.Encode(ss...)
		if e != api.OK {
			t.Fatalf("Encode(%q): %d", ss, e)
		}
		for _, s := range around(ss) {
			want := sort.Search(len(ss), func(i int) bool { return !plainAhead(ss[i], s) })
			wantSeek(t, b, s, want, api.OK)
		}
	}
	b, _ := prefix.Encode(texts("a", "b", "b", "b", "c")...)
	wantSeek(t, b, []byte("b"), 1, api.OK)
	wantSeek(t, b, []byte("bb"), 4, api.OK)
	wantSeek(t, b, []byte("c"), 4, api.OK)
}

// P11.1: of texts without order those up to the first that doesn't stand ahead, whatever stands behind it.
func TestSeekWithoutOrder(t *testing.T) {
	b := plainEncode(texts("a", "c", "a", "b", "d", "a"))
	for _, x := range []struct {
		s string
		n int
	}{{"", 0}, {"a", 0}, {"aa", 1}, {"b", 1}, {"c", 1}, {"cc", 4}, {"d", 4}, {"dd", 6}} {
		wantSeek(t, b, []byte(x.s), x.n, api.OK)
	}
	rnd := rand.New(rand.NewPCG(11, 4))
	for range 100 {
		ss := someTexts(rnd, rnd.IntN(70))
		b := plainEncode(ss)
		for _, s := range around(ss) {
			wantSeek(t, b, s, plainPlace(ss, s), api.OK)
		}
	}
}

// P11.1: what stands behind the place counts too: Decode's error.
func TestSeekReadsAll(t *testing.T) {
	for _, s := range texts("", "a", "b", "z") {
		wantSeek(t, []byte("\x02\x00\x01b\x00\x01b"), s, 0, api.ErrForm)
		wantSeek(t, []byte("\x02\x00\x01b\x00\x01"), s, 0, api.ErrShort)
		wantSeek(t, []byte("\x01\x00\x01b\x00"), s, 0, api.ErrTrail)
		wantSeek(t, []byte("\x02\x00\x01b\x00\xc9\x01"), s, 0, api.ErrLong)
	}
}

// each does something for all lists of up to n letters.
func each(letters []byte, n int, do func(b []byte)) {
	last := [][]byte{{}}
	for range n {
		var next [][]byte
		for _, b := range last {
			for _, c := range letters {
				next = append(next, append(slices.Clone(b), c))
			}
		}
		for _, b := range next {
			do(b)
		}
		last = next
	}
}

// P11.1, P11.2: all lists of up to five texts out of six.
func TestAllShortLists(t *testing.T) {
	stock := texts("", "a", "a\x00", "aa", "b", "\xff")
	each([]byte{0, 1, 2, 3, 4, 5}, 5, func(b []byte) {
		var ss [][]byte
		for _, c := range b {
			ss = append(ss, stock[c])
		}
		b = plainEncode(ss)
		wantEncode(t, ss, b, api.OK)
		wantDecode(t, b, ss, api.OK)
		for _, s := range stock {
			wantSeek(t, b, s, plainPlace(ss, s), api.OK)
		}
	})
}

// P11.1, P11.2, P3: all bytes of up to two, all small pieces with all bytes, and all of up to six from few at which something changes.
func TestAllShortBytes(t *testing.T) {
	wantOnly(t, nil)
	for c := range 256 {
		wantOnly(t, []byte{byte(c)})
		for d := range 256 {
			wantOnly(t, []byte{byte(c), byte(d)})
			wantOnly(t, []byte{0x01, byte(c), byte(d)})
			wantOnly(t, []byte{0x02, 0x00, 0x01, byte(c), 0x00, 0x01, byte(d)})
			wantOnly(t, []byte{0x02, 0x00, 0x01, 0x61, byte(c), byte(d)})
			wantOnly(t, []byte{0x02, 0x00, 0x01, 0x61, 0x01, byte(c), byte(d)})
		}
	}
	each([]byte{0x00, 0x01, 0x02, 0x03, 0x61, 0x80, 0xff}, 6, func(b []byte) {
		wantOnly(t, b)
		wantOnly(t, append([]byte{0x03, 0x00, 0x02, 0x00, 0x61}, b...))
	})
}

// P11.1, P11.2: texts and bytes of all sorts.
func TestRandom(t *testing.T) {
	rnd := rand.New(rand.NewPCG(11, 5))
	for range 1000 {
		ss := someTexts(rnd, rnd.IntN(50))
		wantAll(t, ss)
		b := plainEncode(ss)
		for range 20 {
			turned := slices.Clone(b)
			turned[rnd.IntN(len(b))] ^= 1 << rnd.IntN(8)
			wantOnly(t, turned)
		}
	}
}

const mark = 0xa5

// roomy is a text with room behind it that is filled.
func roomy(b []byte) []byte {
	all := slices.Concat(b, bytes.Repeat([]byte{mark}, 9))
	return all[:len(b)]
}

// roomyTexts are texts with room behind each of them, and behind their list.
func roomyTexts(ss [][]byte) [][]byte {
	all := slices.Concat(ss, slices.Repeat(texts("\xa5"), 9))
	for i := range all {
		all[i] = roomy(all[i])
	}
	return all[:len(ss)]
}

func isMarked(b []byte) bool {
	return bytes.Equal(b, bytes.Repeat([]byte{mark}, len(b)))
}

// P11.4: neither what is handed in is changed, nor what lies behind its length.
func TestArgumentsStay(t *testing.T) {
	ss := texts("ab", "abc", "", "bb", "b", "cd")
	b := plainEncode(ss)
	for n := range len(ss) + 1 {
		given := roomyTexts(ss[:n])
		prefix.Encode(given...)
		if !equal(given, ss[:n]) {
			t.Errorf("texts changed: %q", given)
		}
		for i, s := range given[:n+9] {
			if !isMarked(s[len(s):len(s)+9]) || i >= n && !isMarked(s) {
				t.Errorf("spare room changed: %q", s[:len(s)+9])
			}
		}
	}
	for n := range len(b) + 1 {
		given, sought := roomy(b[:n]), roomy([]byte("abcd"))
		prefix.Decode(given)
		prefix.Seek(given, sought)
		if !bytes.Equal(given, b[:n]) || !isMarked(given[n:n+9]) {
			t.Errorf("bytes changed: %x", given[:n+9])
		}
		if string(sought) != "abcd" || !isMarked(sought[4:13]) {
			t.Errorf("what is sought changed: %x", sought[:13])
		}
	}
}

// fill writes over a list and its spare room.
func fill(b []byte, c byte) {
	b = b[:cap(b)]
	for i := range b {
		b[i] = c
	}
}

// wantUnshared fills the texts one by one, each with a byte of its own: the others stay.
func wantUnshared(t *testing.T, got, want [][]byte) {
	t.Helper()
	if !equal(got, want) {
		t.Errorf("%q; want %q", got, want)
		return
	}
	for i := range got {
		fill(got[i], byte(i))
		if !equal(got[i+1:], want[i+1:]) {
			t.Errorf("what is written into text %d is seen in %q", i, got[i+1:])
		}
	}
	for i, s := range got {
		if s = s[:cap(s)]; !bytes.Equal(s, bytes.Repeat([]byte{byte(i)}, len(s))) {
			t.Errorf("text %d was written over: %x", i, s)
		}
	}
	clear(got[:cap(got)])
}

// P11.4: what is answered stays, whatever is done to the arguments, to the spare room or to other answers.
func TestAnswersAreNew(t *testing.T) {
	for _, ss := range [][][]byte{nil, texts(""), texts("ab", "abc", "b"), texts("a", "a", "a"), texts("abc", "ab", "a", "", "abcd"), slices.Repeat(texts("a longer one", "a longer one yet"), 20)} {
		b := plainEncode(ss)
		for range 2 {
			givenSs, givenB := cloned(ss), slices.Clone(b)
			encoded, _ := prefix.Encode(givenSs...)
			decoded, _ := prefix.Decode(givenB)
			for _, s := range givenSs {
				fill(s, mark)
			}
			clear(givenSs)
			fill(givenB, mark)
			if !bytes.Equal(encoded, b) {
				t.Errorf("answer changed: %x", encoded)
			}
			wantUnshared(t, decoded, ss)
			fill(encoded, mark)
		}
	}
}

// P11.4: the same memory may be handed in twice.
func TestSharedArguments(t *testing.T) {
	s := []byte("abcabc")
	wantAll(t, [][]byte{s[:3], s[3:], s, s[1:4], s[:0], s[:3]})
	if string(s) != "abcabc" {
		t.Errorf("texts changed: %q", s)
	}
	b := plainEncode(texts("ab", "abc", "b"))
	wantSeek(t, b, b, 0, api.OK)
	wantSeek(t, b, b[3:5], 0, api.OK)
	wantSeek(t, b, b[10:], 2, api.OK)
}

// P2: asked again, the same.
func TestAskedAgain(t *testing.T) {
	rnd := rand.New(rand.NewPCG(11, 6))
	ss := someTexts(rnd, 60)
	for range 20 {
		wantAll(t, ss)
		prefix.Encode(make([][]byte, 5000)...)
		wantWrong(t, []byte("\x02\x00\x01a\x00\x01a"), api.ErrForm)
	}
}
