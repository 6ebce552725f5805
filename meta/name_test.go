package meta_test

import (
	"fmt"
	"math"
	"slices"
	"strings"
	"testing"
	"unsafe"

	"stoa/api"
	"stoa/meta"
)

// allParts are the names of all parts, written out.
func allParts() []string {
	all := []string{"base", "bloom", "keys", "live", "undo"}
	for i := range 12 {
		all = append(all, fmt.Sprintf("col-%02d", i))
	}
	for i := range 999 {
		all = append(all, fmt.Sprintf("redo-%03d", i+1))
	}
	return all
}

// noParts are names near those of parts.
func noParts() []string {
	return []string{
		"", "b", "bas", "base ", "Base", "BASE", " base", "base.", "basekeys", "bloom2", "key", "keyss", "lives", "undo-", "undo-001", "base\x00",
		"col", "col-", "col-0", "col-1", "col-000", "col-001", "col-12", "col-13", "col-20", "col-99", "col--1", "col-+1", "col-1 ", "col- 1", "col-0a", "col-a0", "col-1.", "col-1_", "col-1/", "col-1:", "col-/1", "col-:1", "col_01", "col01", "Col-01", "col-\x80\x81", "col-1\xff",
		"redo", "redo-", "redo-1", "redo-01", "redo-000", "redo-0000", "redo-0001", "redo-1000", "redo--01", "redo-+01", "redo-00a", "redo-a00", "redo-0 1", "redo-00:", "redo-00/", "redo001", "redo_001", "rredo-001", "col-001", "redo-٠٠١",
		"super", "super.tmp", "wal-000001", "set-000001.base", "000001", "redo", "undo-01",
	}
}

// allBytes puts each byte in each place of a name, and between each two, and leaves each byte out.
func allBytes(name string, ask func(string)) {
	for at := range len(name) + 1 {
		for v := range 256 {
			ask(name[:at] + string([]byte{byte(v)}) + name[at:])
			if at < len(name) {
				ask(name[:at] + string([]byte{byte(v)}) + name[at+1:])
			}
		}
		if at < len(name) {
			ask(name[:at] + name[at+1:])
		}
		ask(name[:at])
	}
}

func wantName(t *testing.T, id int, part, want string, wantErr api.Errno) {
	t.Helper()
	if name, e := meta.Name(id, part); name != want || e != wantErr {
		t.Errorf("Name(%d, %q) = %q, %d; want %q, %d", id, part, name, e, want, wantErr)
	}
}

func wantParse(t *testing.T, name string, wantId int, wantPart string, want bool) {
	t.Helper()
	if id, part, ok := meta.Parse(name); id != wantId || part != wantPart || ok != want {
		t.Errorf("Parse(%q) = %d, %q, %t; want %d, %q, %t", name, id, part, ok, wantId, wantPart, want)
	}
}

// P23.1: all parts of some rowsets, there and back.
func TestNames(t *testing.T) {
	for _, id := range []int{1, 2, 9, 10, 11, 99, 100, 999, 1000, 9999, 10000, 12345, 99999, 100000, 123456, 999998, 999999} {
		for _, part := range allParts() {
			name := fmt.Sprintf("set-%06d.%s", id, part)
			wantName(t, id, part, name, api.OK)
			wantParse(t, name, id, part, true)
		}
	}
	for id := 1; id <= 999999; id += 7 {
		name := fmt.Sprintf("set-%06d.live", id)
		wantName(t, id, "live", name, api.OK)
		wantParse(t, name, id, "live", true)
	}
}

// P23.1: the errors of Name; ErrArg goes ahead of ErrName.
func TestNameErrors(t *testing.T) {
	for _, id := range []int{math.MinInt, math.MinInt + 1, -1000000, -7, -1, 0, 1000000, 1000001, 10000000, 1 << 32, 1<<32 + 1, math.MaxInt - 1, math.MaxInt} {
		wantName(t, id, "keys", "", api.ErrArg)
		wantName(t, id, "key", "", api.ErrArg)
	}
	for _, part := range noParts() {
		wantName(t, 1, part, "", api.ErrName)
		wantName(t, 999999, part, "", api.ErrName)
		wantParse(t, "set-000001."+part, 0, "", false)
	}
}

// P23.1: all names that are near one of a part.
func TestNearNames(t *testing.T) {
	parts := map[string]int{}
	for _, part := range allParts() {
		parts[part] = 1
	}
	isDigits := func(s string) bool { return len(s) == 6 && strings.Trim(s, "0123456789") == "" && s != "000000" }
	right := 0
	for _, near := range []string{"set-000012.base", "set-100000.bloom", "set-000001.col-00", "set-999999.col-11", "set-900000.redo-001", "set-000100.redo-999", "set-020300.redo-100", "set-000007.undo"} {
		allBytes(near, func(name string) {
			if len(name) > 11 && name[:4] == "set-" && isDigits(name[4:10]) && name[10] == '.' && parts[name[11:]] == 1 {
				id := 0
				fmt.Sscanf(name[4:10], "%d", &id)
				wantParse(t, name, id, name[11:], true)
				right++
				return
			}
			wantParse(t, name, 0, "", false)
		})
	}
	if right < 500 {
		t.Errorf("%d names are right", right)
	}
	for _, part := range []string{"base", "bloom", "keys", "live", "undo", "col-00", "col-07", "col-11", "redo-001", "redo-500", "redo-999"} {
		allBytes(part, func(near string) {
			if parts[near] == 1 {
				wantName(t, 7, near, "set-000007."+near, api.OK)
				return
			}
			wantName(t, 7, near, "", api.ErrName)
		})
	}
}

// P23.1: names of other files.
func TestOtherNames(t *testing.T) {
	for _, name := range []string{
		"", ".", "..", "set", "set-", "set-.", "set-.base", "set-000001", "set-000001.", "set-000001base", "set-000001..base", "set-000001.base.base", "set-000001.base.", ".set-000001.base",
		"set-000000.base", "set-00001.base", "set-0000001.base", "set-1000000.base", "set--00001.base", "set-+00001.base", "set-00001a.base", "set-0x0001.base", "set- 00001.base", "set_000001.base", "SET-000001.base", "Set-000001.base", "rset-000001.base", "set-set-000001.base", "000001.base", "set-000001.wal-000001", "super", "super.tmp", "wal-000001",
		"set-٠٠٠.base", strings.Repeat("set-000001.base", 1000),
	} {
		wantParse(t, name, 0, "", false)
	}
}

// P23.5: what is told of a name is no piece of it.
func TestNamesAreNew(t *testing.T) {
	given := []byte("set-000012.col-03")
	_, part, ok := meta.Parse(unsafe.String(unsafe.SliceData(given), len(given)))
	other := []byte("redo-007")
	name, e := meta.Name(12, unsafe.String(unsafe.SliceData(other), len(other)))
	wipeBytes(given)
	wipeBytes(other)
	if !ok || part != "col-03" || e != api.OK || name != "set-000012.redo-007" {
		t.Errorf("Parse told %q, %t; Name %q, %d", part, ok, name, e)
	}
	if !slices.Equal(given, slices.Repeat([]byte("~"), len(given))) {
		t.Error("not written over")
	}
}
