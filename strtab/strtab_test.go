package strtab

import (
	"bytes"
	"math"
	"math/rand"
	"slices"
	"strings"
	"testing"

	"dovetail/api"
)

// TestGet: P9.1: from each place up to the next nought, which needn't be a name's beginning; bytes of any kind.
func TestGet(t *testing.T) {
	tab := []byte("\x00main\x00\xff\x80é\n\x00\x00z")
	for off, want := range map[uint32]string{
		0: "", 1: "main", 2: "ain", 4: "n", 5: "", 6: "\xff\x80é\n", 7: "\x80é\n", 9: "\xa9\n", 10: "\n", 11: "", 12: "",
	} {
		if got, ok := Get(tab, off); got != want || !ok {
			t.Errorf("P9.1: Get at %d: %q, %v, wanted %q", off, got, ok, want)
		}
	}
	if got, ok := Get([]byte("ab\x00"), 0); got != "ab" || !ok {
		t.Errorf("P9.1: Get of a table that doesn't begin with a nought: %q, %v", got, ok)
	}
}

// TestGetWrong: P9.1: not within the table, no nought: "" and false.
func TestGetWrong(t *testing.T) {
	for _, c := range []struct {
		tab string
		off uint32
	}{
		{"", 0}, {"", 1}, {"", math.MaxUint32},
		{"\x00", 1}, {"\x00", 2}, {"\x00", 1 << 31}, {"\x00", 1<<31 - 1}, {"\x00", math.MaxUint32},
		{"a\x00", 2}, {"a\x00", 3}, {"\x00a\x00", 1 << 8}, {"\x00a\x00", 1<<8 + 1}, {"\x00a\x00", 1<<16 + 1}, {"\x00a\x00", 1<<24 + 1}, {"\x00a\x00", 1<<31 + 1},
		{"a", 0}, {"\x00a", 1}, {"\x00ab", 2}, {"a\x00bc", 2}, {"a\x00bc", 3},
	} {
		if got, ok := Get([]byte(c.tab), c.off); got != "" || ok {
			t.Errorf("P9.1: Get(%q, %d): %q, %v", c.tab, c.off, got, ok)
		}
	}
	if got, ok := Get(nil, 0); got != "" || ok {
		t.Errorf("P9.1: Get of no table: %q, %v", got, ok)
	}
}

// TestGetSpare: P9.1: a nought in the spare room behind the table isn't in it.
func TestGetSpare(t *testing.T) {
	whole := []byte("\x00ab\x00")
	for off := range uint32(5) {
		got, ok := Get(whole[:3], off)
		if off == 0 && (got != "" || !ok) || off > 0 && (got != "" || ok) {
			t.Errorf("P9.1: Get at %d ahead of spare room: %q, %v", off, got, ok)
		}
	}
}

// TestGetLong: P9.1: up to MaxName bytes, and no more, however the name ends.
func TestGetLong(t *testing.T) {
	for _, n := range []int{0, 1, api.MaxName - 1, api.MaxName, api.MaxName + 1, api.MaxName + 2, 255, 256, 2 * api.MaxName, 1 << 16, 1 << 20} {
		name := strings.Repeat("n", n)
		for _, ahead := range []string{"", "\x00", "a\x00", strings.Repeat("\x00", 70000)} {
			off := uint32(len(ahead))
			for _, behind := range []string{"", "\x00", "b", "b\x00"} {
				want, good := name, n <= api.MaxName
				if !good {
					want = ""
				}
				if got, ok := Get([]byte(ahead+name+"\x00"+behind), off); got != want || ok != good {
					t.Errorf("P9.1: Get of a name of %d bytes at %d: %d bytes, %v", n, off, len(got), ok)
				}
			}
			if got, ok := Get([]byte(ahead+name), off); got != "" || ok {
				t.Errorf("P9.1: Get of %d bytes without a nought at %d: %d bytes, %v", n, off, len(got), ok)
			}
		}
	}
}

// TestGetGreat: P9.1: far within a table that is great, up to its last byte.
func TestGetGreat(t *testing.T) {
	tab := make([]byte, 1<<24+3)
	copy(tab[1<<24:], "ab")
	for off, want := range map[uint32]string{1 << 24: "ab", 1<<24 + 1: "b", 1<<24 + 2: "", 1<<24 - 1: "", 1 << 16: ""} {
		if got, ok := Get(tab, off); got != want || !ok {
			t.Errorf("P9.1: Get at %d: %q, %v, wanted %q", off, got, ok, want)
		}
	}
	if _, ok := Get(tab, 1<<24+3); ok {
		t.Error("P9.1: Get at the end of a great table")
	}
}

// TestBuild: P9.1: names once, in order; "" and what begins with a nought at 0; an end of another name is a name of its own.
func TestBuild(t *testing.T) {
	long := strings.Repeat("l", 70000)
	for _, c := range []struct {
		names []string
		tab   string
		at    []uint32
	}{
		{nil, "\x00", nil},
		{[]string{}, "\x00", nil},
		{[]string{""}, "\x00", []uint32{0}},
		{[]string{"", "", ""}, "\x00", []uint32{0, 0, 0}},
		{[]string{"a"}, "\x00a\x00", []uint32{1}},
		{[]string{"a", "", "a"}, "\x00a\x00", []uint32{1, 0, 1}},
		{[]string{"b", "a", "b", "a", "c"}, "\x00b\x00a\x00c\x00", []uint32{1, 3, 1, 3, 5}},
		{[]string{"abc", "bc", "c", "ab", "abc"}, "\x00abc\x00bc\x00c\x00ab\x00", []uint32{1, 5, 8, 10, 1}},
		{[]string{"A", "a", " ", "a ", " a"}, "\x00A\x00a\x00 \x00a \x00 a\x00", []uint32{1, 3, 5, 7, 10}},
		{[]string{"\xff", "\xfe", "\xff\xfe", "é", "\ufffd", "\xff"}, "\x00\xff\x00\xfe\x00\xff\xfe\x00é\x00\ufffd\x00", []uint32{1, 3, 5, 8, 11, 1}},
		{[]string{long, "x", long}, "\x00" + long + "\x00x\x00", []uint32{1, 70002, 1}},
	} {
		tab, at := Build(c.names...)
		if string(tab) != c.tab || !slices.Equal(at, c.at) {
			t.Errorf("P9.1: Build(%.40q): %.40q, %v", c.names, tab, at)
		}
	}
}

// TestBuildNought: P9.1: of a name with a nought in it the bytes ahead of the first one count, for "" and for what stood ahead, too.
func TestBuildNought(t *testing.T) {
	for _, c := range []struct {
		names []string
		tab   string
		at    []uint32
	}{
		{[]string{"\x00"}, "\x00", []uint32{0}},
		{[]string{"\x00\x00", "\x00a", ""}, "\x00", []uint32{0, 0, 0}},
		{[]string{"a\x00"}, "\x00a\x00", []uint32{1}},
		{[]string{"a\x00b\x00c"}, "\x00a\x00", []uint32{1}},
		{[]string{"a\x00b", "a", "a\x00c", "b", "a\x00b"}, "\x00a\x00b\x00", []uint32{1, 1, 1, 3, 1}},
		{[]string{"a", "a\x00b", "ab\x00"}, "\x00a\x00ab\x00", []uint32{1, 1, 3}},
	} {
		tab, at := Build(c.names...)
		if string(tab) != c.tab || !slices.Equal(at, c.at) {
			t.Errorf("P9.1: Build(%q): %q, %v, wanted %q, %v", c.names, tab, at, c.tab, c.at)
		}
	}
}

// TestOwnMemory: P9.1: what is handed in is neither changed nor kept, the spare room behind it included; what is answered is new memory.
func TestOwnMemory(t *testing.T) {
	tab := []byte("\x00name\x00spare")
	got, ok := Get(tab[:6], 1)
	if string(tab) != "\x00name\x00spare" || !ok {
		t.Error("P9.1: Get changed its table")
	}
	clear(tab)
	if got != "name" {
		t.Errorf("P9.1: Get kept its table: %q", got)
	}
	names := []string{"b\x00x", "a", "b", "spare"}
	first, at := Build(names[:3]...)
	if !slices.Equal(names, []string{"b\x00x", "a", "b", "spare"}) {
		t.Errorf("P9.1: Build changed its names: %q", names)
	}
	clear(first)
	clear(at)
	second, again := Build(names[:3]...)
	if string(second) != "\x00b\x00a\x00" || !slices.Equal(again, []uint32{1, 3, 1}) {
		t.Errorf("P9.1: Build again: %q, %v", second, again)
	}
	empty, _ := Build()
	_ = append(empty, 1)
	empty[0] = 1
	if next, none := Build(); !bytes.Equal(next, []byte{0}) || len(none) != 0 {
		t.Errorf("P9.1: Build of nothing again: %q, %v", next, none)
	}
}

// someNames: few letters and short names, so that many are alike, ends of one another, or have noughts; some are as long as MaxName, or longer.
func someNames(rnd *rand.Rand) []string {
	names := make([]string, rnd.Intn(40))
	for i := range names {
		n := rnd.Intn(5)
		if rnd.Intn(8) == 0 {
			n = api.MaxName - 1 + rnd.Intn(3)
		}
		b := make([]byte, n)
		for j := range b {
			b[j] = "ab\xff"[rnd.Intn(3)]
		}
		if n > 0 && rnd.Intn(6) == 0 {
			b[rnd.Intn(n)] = 0
		}
		names[i] = string(b)
	}
	return names
}

// ahead: the bytes of name ahead of its first nought.
func ahead(name string) string {
	return strings.Split(name, "\x00")[0]
}

// TestBuiltIsGot: P9.2: of any names, each is got back where Build says that it begins, if it isn't too long.
func TestBuiltIsGot(t *testing.T) {
	for seed := range int64(500) {
		names := someNames(rand.New(rand.NewSource(seed)))
		tab, at := Build(names...)
		if len(at) != len(names) {
			t.Fatalf("P9.1: run %d: %d places of %d names", seed, len(at), len(names))
		}
		for i, name := range names {
			want, good := ahead(name), len(ahead(name)) <= api.MaxName
			if !good {
				want = ""
			}
			if got, ok := Get(tab, at[i]); got != want || ok != good {
				t.Fatalf("P9.2: run %d: name %d, %q at %d: %q, %v", seed, i, name, at[i], got, ok)
			}
		}
	}
}

// TestAnyTable: P9.1: tables of any names, held against a plain list of those that stand there.
func TestAnyTable(t *testing.T) {
	for seed := range int64(500) {
		names := someNames(rand.New(rand.NewSource(seed)))
		stand := []string{""}
		var where []uint32
		for _, name := range names {
			i := slices.Index(stand, ahead(name))
			if i < 0 {
				i = len(stand)
				stand = append(stand, ahead(name))
			}
			where = append(where, uint32(len(strings.Join(stand[:i], "\x00"))+min(i, 1)))
		}
		want := strings.Join(stand, "\x00") + "\x00"
		if tab, at := Build(names...); string(tab) != want || !slices.Equal(at, where) {
			t.Fatalf("P9.1: run %d: Build(%q): %q, %v, wanted %q, %v", seed, names, tab, at, want, where)
		}
	}
}

// TestAnyGet: P9.1: any bytes, at each place and past the end, held against a plain walk.
func TestAnyGet(t *testing.T) {
	for seed := range int64(100) {
		rnd := rand.New(rand.NewSource(seed))
		tab := make([]byte, rnd.Intn(700))
		for i := range tab {
			if rnd.Intn(1+int(seed)*3) > 0 {
				tab[i] = byte(1 + rnd.Intn(255))
			}
		}
		for off := range len(tab) + 3 {
			end := off
			for end < len(tab) && tab[end] != 0 {
				end++
			}
			want, good := "", end < len(tab) && end-off <= api.MaxName
			if good {
				want = string(tab[off:end])
			}
			if got, ok := Get(tab, uint32(off)); got != want || ok != good {
				t.Fatalf("P9.1: run %d: Get at %d of %d: %q, %v, wanted %q, %v", seed, off, len(tab), got, ok, want, good)
			}
		}
	}
}

// TestManyNames: P9.1, P9.2: so many names that each is found at once, or this doesn't end in time.
func TestManyNames(t *testing.T) {
	const many = 200000
	names := make([]string, 0, 2*many)
	for i := range many {
		names = append(names, strings.Repeat("x", i%7)+string(rune('a'+i%26))+string([]byte{byte(1 + i%255), byte(1 + i/255%255), byte(1 + i/255/255)}))
	}
	names = append(names, names...)
	tab, at := Build(names...)
	for i := range many {
		if at[i] != at[many+i] {
			t.Fatalf("P9.1: name %d stands twice", i)
		}
		if got, ok := Get(tab, at[i]); got != names[i] || !ok {
			t.Fatalf("P9.2: name %d: %q, %v", i, got, ok)
		}
	}
}
