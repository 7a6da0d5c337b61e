package armap

import (
	"bytes"
	"encoding/binary"
	"fmt"
	"math"
	"math/rand"
	"slices"
	"sort"
	"strings"
	"testing"

	"dovetail/api"
	"dovetail/ar"
	"dovetail/emit"
	"dovetail/obj"
)

// counts: how many members an archive may be said to have.
var counts = []int{math.MinInt, -1 << 32, -1, 0, 1, 2, 100, 101, 1 << 32, math.MaxInt}

// short: v as text, of which a message has no more than so much.
func short(v any) string {
	return fmt.Sprintf("%.400s", fmt.Sprintf("%+q", v))
}

// index: an index that says how many, has those numbers, and those bytes behind them.
func index(many uint32, numbers []uint32, behind string) []byte {
	b := binary.BigEndian.AppendUint32(nil, many)
	for _, n := range numbers {
		b = binary.BigEndian.AppendUint32(b, n)
	}
	return append(b, behind...)
}

// indexOf: a right index of names; its numbers are noughts.
func indexOf(names ...string) []byte {
	behind := ""
	if len(names) > 0 {
		behind = strings.Join(names, "\x00") + "\x00"
	}
	return index(uint32(len(names)), make([]uint32, len(names)), behind)
}

// plainParse: the chapter's words about an index, one by one.
func plainParse(b []byte, count int) ([]string, bool) {
	if len(b) == 0 {
		return nil, true
	}
	if len(b) < 4 {
		return nil, false
	}
	many := int64(0)
	for _, c := range b[:4] {
		many = 256*many + int64(c)
	}
	if int64(len(b)) < 4+4*many {
		return nil, false
	}
	var names []string
	var name []byte
	for _, c := range b[4+4*many:] {
		if c == 0 {
			names = append(names, string(name))
			name = nil
		} else {
			name = append(name, c)
		}
	}
	if len(name) > 0 || int64(len(names)) != many || many > 2000 || many >= 1 && count < 1 {
		return nil, false
	}
	return names, true
}

// checked: whether Parse answers as plainParse does, and whether it is no error.
func checked(t *testing.T, what string, b []byte, count int) bool {
	t.Helper()
	names, good := plainParse(b, count)
	e := api.ErrArmap
	if good {
		e = api.OK
	}
	got, err := Parse(b, count)
	if !slices.Equal(got, names) || err != e {
		t.Fatalf("P18.1: %s: %s, %d members: %s, %v, wanted %s, %v", what, short(b), count, short(got), err, short(names), e)
	}
	return good
}

// must: that Parse is good, or isn't, as the test has it written down.
func must(t *testing.T, what string, b []byte, count int, want bool) {
	t.Helper()
	if checked(t, what, b, count) != want {
		t.Errorf("P18.1: %s: %s, %d members: good is %v", what, short(b), count, !want)
	}
}

// TestParse: P18.1: indexes as they are written down.
func TestParse(t *testing.T) {
	long := strings.Repeat("l", 70000)
	for _, c := range []struct {
		b    string
		want []string
	}{
		{"\x00\x00\x00\x01\x00\x00\x00\x00a\x00", []string{"a"}},
		{"\x00\x00\x00\x01\x00\x00\x00\x00\x00", []string{""}},
		{"\x00\x00\x00\x03\x00\x00\x00\x00\x00\x00\x00\x01\x00\x00\x00\x02one\x00two\x00three\x00", []string{"one", "two", "three"}},
		{"\x00\x00\x00\x04" + "numbersof4 bytes" + "b\x00a\x00\x00b\x00", []string{"b", "a", "", "b"}},
		{"\x00\x00\x00\x02\x00\x00\x00\x00\x00\x00\x00\x00\xff\xfe\x00é \n/\x00", []string{"\xff\xfe", "é \n/"}},
		{"\x00\x00\x00\x02\xff\xff\xff\xff\xff\xff\xff\xff" + long + "\x00x\x00", []string{long, "x"}},
	} {
		got, e := Parse([]byte(c.b), 1)
		if !slices.Equal(got, c.want) || e != api.OK {
			t.Errorf("P18.1: %s: %s, %v, wanted %s", short(c.b), short(got), e, short(c.want))
		}
	}
}

// TestParseNone: P18.1: no bytes and an index of no names have none, however many members there are.
func TestParseNone(t *testing.T) {
	for _, count := range counts {
		for _, b := range [][]byte{nil, {}, []byte("room")[:0], {0, 0, 0, 0}} {
			if got, e := Parse(b, count); len(got) != 0 || e != api.OK {
				t.Errorf("P18.1: %q, %d members: %q, %v", b, count, got, e)
			}
		}
		for _, b := range []string{"\x00", "\x00\x00", "\x00\x00\x00", "\x00\x00\x00\x00\x00", "\x00\x00\x00\x00\x00\x00\x00\x00", "\x00\x00\x00\x00a\x00"} {
			must(t, "no names, but not just so", []byte(b), count, false)
		}
	}
}

// TestParseCount: P18.1: names are there only where there is a member; an archive may have fewer members than names, and any more.
func TestParseCount(t *testing.T) {
	for _, count := range counts {
		must(t, "one name", indexOf("a"), count, count >= 1)
		must(t, "an empty name", indexOf(""), count, count >= 1)
		must(t, "three names", indexOf("a", "b", "c"), count, count >= 1)
		must(t, "a byte behind", append(indexOf("a"), 'x'), count, false)
	}
}

// TestParseCut: P18.1: an index that is cut at any place, and one with any byte behind it, isn't one; the room behind it is nobody's.
func TestParseCut(t *testing.T) {
	whole := index(3, []uint32{1, 2, 3}, "one\x00\x00three\x00")
	for n := range len(whole) + 1 {
		must(t, "cut short", whole[:n], 5, n == 0 || n == len(whole))
	}
	for x := range 256 {
		must(t, "a byte behind", append(bytes.Clone(whole), byte(x)), 5, false)
		must(t, "a byte behind none", []byte{0, 0, 0, 0, byte(x)}, 5, false)
	}
	must(t, "a LF that makes it even", append(indexOf("a", "bb"), '\n'), 5, false)
	must(t, "twice", append(bytes.Clone(whole), whole...), 5, false)
}

// TestParseMany: P18.1: how many it says that there are is what there is: the highest byte first, all four of them.
func TestParseMany(t *testing.T) {
	for _, many := range []uint32{0, 1, 2, 3, 4, 255, 256, 257, 1999, 2000, 2001, 1 << 16, 1<<16 + 3, 3 << 16, 3 << 24, 1<<24 + 3, 1 << 30, 1<<30 + 3, 1<<31 - 1, 1 << 31, 1<<31 + 3, math.MaxUint32 - 1, math.MaxUint32} {
		must(t, "three names", index(many, []uint32{'a', 'b', 'c'}, "x\x00y\x00z\x00"), 5, many == 3)
		must(t, "no bytes behind", index(many, nil, ""), 5, many == 0)
	}
	must(t, "256 names", indexOf(make([]string, 256)...), 5, true)
	must(t, "258 names", indexOf(make([]string, 258)...), 5, true)
	for many := range 8 {
		for named := range 8 {
			b := index(uint32(many), make([]uint32, many), strings.Repeat("n\x00", named))
			must(t, "any names", b, 5, many == named)
		}
	}
}

// TestParseLimit: P18.1: at most 2000 names, short and long ones, and empty ones.
func TestParseLimit(t *testing.T) {
	for many := 1997; many <= 2003; many++ {
		names := make([]string, many)
		must(t, "empty names", indexOf(names...), 1, many <= 2000)
		for i := range names {
			names[i] = fmt.Sprint("n", i)
		}
		must(t, "names", indexOf(names...), 100, many <= 2000)
		must(t, "names without a member", indexOf(names...), 0, false)
		names[many-1] = strings.Repeat("x", 300)
		must(t, "the last is long", indexOf(names...), 100, many <= 2000)
	}
	for _, many := range []int{4000, 1 << 16, 1<<16 + 1, 1 << 20} {
		must(t, "many names", indexOf(make([]string, many)...), 100, false)
	}
}

// TestParseNames: P18.1: names of any bytes but noughts, and of any length.
func TestParseNames(t *testing.T) {
	for x := 1; x < 256; x++ {
		name := string([]byte{byte(x)})
		must(t, "one byte", indexOf(name, name+name, "a"+name), 1, true)
	}
	for _, n := range []int{0, 1, 15, 16, 17, 199, 200, 201, 255, 256, 257, 65535, 65536} {
		must(t, "a length", indexOf("a", strings.Repeat("n", n), "b"), 1, true)
	}
	names := []string{strings.Repeat("n", 1<<21)}
	if got, e := Parse(indexOf(names...), 1); !slices.Equal(got, names) || e != api.OK {
		t.Errorf("P18.1: a name of 2^21 bytes: %d names, %v", len(got), e)
	}
}

// TestParseEachByte: P18.1: each byte of an index as each other one.
func TestParseEachByte(t *testing.T) {
	whole := index(4, []uint32{0, 1, 0x01020304, math.MaxUint32}, "one\x00\x00three\x00b\x00")
	for i := range whole {
		b := bytes.Clone(whole)
		for x := range 256 {
			b[i] = byte(x)
			checked(t, "one byte", b, 1)
			checked(t, "one byte, no member", b, 0)
		}
	}
}

// TestParseAny: P18.1: any indexes, right ones and those with some bytes changed, held against the chapter's words one by one.
func TestParseAny(t *testing.T) {
	rnd := rand.New(rand.NewSource(181))
	good, bad := 0, 0
	for run := range 30000 {
		b := Bytes(anyEntries(rnd)...)
		count := rnd.Intn(8)
		for range rnd.Intn(2) {
			b[rnd.Intn(len(b))] ^= 1 << rnd.Intn(8)
		}
		switch run % 16 {
		case 0:
			rnd.Read(b[rnd.Intn(len(b)+1):])
		case 1:
			b = b[:rnd.Intn(len(b)+1)]
		case 2:
			b = append(b, byte(rnd.Intn(3)))
		case 3:
			b[3]++
		}
		if checked(t, "any index", b, count) {
			good++
		} else {
			bad++
		}
	}
	if good < 3000 || bad < 3000 {
		t.Errorf("P18.1: %d indexes were right, %d wrong", good, bad)
	}
}

// TestParseOwnMemory: P18.1: what is handed in is neither changed nor kept, the spare room behind it included; what is answered is new memory.
func TestParseOwnMemory(t *testing.T) {
	b := append(indexOf("one", "", "two"), "spare"...)
	old := bytes.Clone(b)
	n := len(b) - 5
	names, e := Parse(b[:n], 1)
	if !bytes.Equal(b, old) || e != api.OK {
		t.Errorf("P18.1: what was handed in was changed, or is wrong: %q, %v", b, e)
	}
	clear(b)
	if !slices.Equal(names, []string{"one", "", "two"}) {
		t.Errorf("P18.1: what was handed in was kept: %q", names)
	}
	copy(b, old)
	clear(names[:cap(names)])
	must(t, "again", b[:n], 1, true)
}

// anyEntries: few of them; few letters, so that many names are alike; any numbers.
func anyEntries(rnd *rand.Rand) []api.Entry {
	l := make([]api.Entry, rnd.Intn(7))
	for i := range l {
		name := make([]byte, rnd.Intn(4))
		for k := range name {
			name[k] = "ab\xff"[rnd.Intn(3)]
		}
		l[i] = api.Entry{Name: string(name), Member: int(rnd.Uint64() >> rnd.Intn(64))}
	}
	return l
}

// TestBytes: P18.1: indexes, each byte of them; of members' numbers the lowest four bytes, the highest first.
func TestBytes(t *testing.T) {
	long := strings.Repeat("l", 300)
	for _, c := range []struct {
		l    []api.Entry
		want string
	}{
		{nil, "\x00\x00\x00\x00"},
		{[]api.Entry{}, "\x00\x00\x00\x00"},
		{[]api.Entry{{}}, "\x00\x00\x00\x01\x00\x00\x00\x00\x00"},
		{[]api.Entry{{Name: "a", Member: 7}}, "\x00\x00\x00\x01\x00\x00\x00\x07a\x00"},
		{[]api.Entry{{Name: "b", Member: 0x01020304}, {Name: "", Member: 99}, {Name: "aé", Member: 0}, {Name: "b", Member: 256}}, "\x00\x00\x00\x04\x01\x02\x03\x04\x00\x00\x00\x63\x00\x00\x00\x00\x00\x00\x01\x00b\x00\x00aé\x00b\x00"},
		{[]api.Entry{{Name: long, Member: math.MaxUint32}, {Name: "\xff", Member: 1 << 31}}, "\x00\x00\x00\x02\xff\xff\xff\xff\x80\x00\x00\x00" + long + "\x00\xff\x00"},
		{[]api.Entry{{Name: "x", Member: -1}, {Name: "y", Member: -2}, {Name: "z", Member: 1<<32 + 5}, {Name: "v", Member: math.MinInt}, {Name: "w", Member: math.MaxInt}}, "\x00\x00\x00\x05\xff\xff\xff\xff\xff\xff\xff\xfe\x00\x00\x00\x05\x00\x00\x00\x00\xff\xff\xff\xffx\x00y\x00z\x00v\x00w\x00"},
	} {
		if got := Bytes(c.l...); string(got) != c.want {
			t.Errorf("P18.1: Bytes(%s): %s, wanted %s", short(c.l), short(got), short(c.want))
		}
	}
}

// TestBytesMany: P18.1: how many there are is told by all of its bytes; so many that each is put down at once, or this doesn't end in time.
func TestBytesMany(t *testing.T) {
	for _, many := range []int{255, 256, 2000, 2001, 65535, 65536, 1 << 20} {
		l := make([]api.Entry, many)
		numbers := make([]uint32, many)
		var behind strings.Builder
		for i := range l {
			l[i] = api.Entry{Name: fmt.Sprint("n", i), Member: 3 * i}
			numbers[i] = uint32(3 * i)
			behind.WriteString(l[i].Name + "\x00")
		}
		if b := Bytes(l...); !bytes.Equal(b, index(uint32(many), numbers, behind.String())) {
			t.Errorf("P18.1: %d bytes of %d entries", len(b), many)
		}
	}
}

// TestBackAgain: P18.1: names are read from their index as they were, in their order, as often as they stand there.
func TestBackAgain(t *testing.T) {
	rnd := rand.New(rand.NewSource(182))
	for range 10000 {
		l := anyEntries(rnd)
		var want []string
		for _, entry := range l {
			want = append(want, entry.Name)
		}
		if got, e := Parse(Bytes(l...), 1); !slices.Equal(got, want) || e != api.OK {
			t.Fatalf("P18.1: %s: %q, %v", short(l), got, e)
		}
	}
}

// TestBytesOwnMemory: P18.1: what is handed in is neither changed nor kept; what is answered is new memory.
func TestBytesOwnMemory(t *testing.T) {
	l := []api.Entry{{Name: "b", Member: 2}, {Name: "a", Member: 1}, {Name: "spare", Member: 3}}
	old := slices.Clone(l)
	want := "\x00\x00\x00\x02\x00\x00\x00\x02\x00\x00\x00\x01b\x00a\x00"
	first := Bytes(l[:2]...)
	if !slices.Equal(l, old) || string(first) != want {
		t.Errorf("P18.1: Bytes changed its entries, or is wrong: %v, %q", l, first)
	}
	clear(first[:cap(first)])
	if second := Bytes(l[:2]...); string(second) != want || !slices.Equal(l, old) {
		t.Errorf("P18.1: Bytes again: %q", second)
	}
	none := Bytes()
	none[3] = 1
	if again := Bytes(); string(again) != "\x00\x00\x00\x00" {
		t.Errorf("P18.1: Bytes of nothing again: %q", again)
	}
}

// plainDefines: the chapter's words about what an object defines: each name is asked for among all symbols.
func plainDefines(o api.Object) []string {
	var names []string
	for _, s := range o.Syms {
		if s.Bind != 1 && s.Bind != 2 || s.Sect == 0 || slices.Contains(names, s.Name) {
			continue
		}
		names = append(names, s.Name)
	}
	sort.Strings(names)
	return names
}

// with: an object of one section with these symbols behind the empty one.
func with(syms ...api.Sym) api.Object {
	return api.Object{Sects: []api.Sect{{Align: 1, Size: 4, Data: []byte("data")}}, Syms: append([]api.Sym{{}}, syms...)}
}

// TestDefines: P18.2: global and weak symbols that aren't Undef, each name once, in order of bytes.
func TestDefines(t *testing.T) {
	for _, c := range []struct {
		o    api.Object
		want []string
	}{
		{api.Object{}, nil},
		{with(), nil},
		{with(api.Sym{Name: "a", Bind: 1, Sect: 1}), []string{"a"}},
		{with(api.Sym{Name: "a", Bind: 2, Sect: 1}), []string{"a"}},
		{with(api.Sym{Name: "a", Sect: 1}, api.Sym{Name: "b", Sect: api.Abs}, api.Sym{Name: "f.c", Type: 4, Sect: api.Abs}), nil},
		{with(api.Sym{Name: "a", Bind: 1}, api.Sym{Name: "b", Bind: 2}), nil},
		{with(api.Sym{Name: "a", Bind: 1, Sect: api.Abs}, api.Sym{Name: "b", Bind: 2, Sect: api.Abs}), []string{"a", "b"}},
		{with(api.Sym{Name: "b", Bind: 1, Sect: api.Common, Value: 8, Size: 8}, api.Sym{Name: "a", Bind: 2, Sect: api.Common, Value: 1}), []string{"a", "b"}},
		{with(api.Sym{Name: "b", Bind: 1, Sect: 1}, api.Sym{Name: "a", Bind: 1, Sect: 1}, api.Sym{Name: "b", Bind: 2, Sect: 1}, api.Sym{Name: "a", Bind: 1, Sect: api.Abs}), []string{"a", "b"}},
		{with(api.Sym{Name: "a", Bind: 1}, api.Sym{Name: "a", Bind: 2, Sect: 1}), []string{"a"}},
		{with(api.Sym{Name: "a", Bind: 2, Sect: 1}, api.Sym{Name: "a", Bind: 1}), []string{"a"}},
		{with(api.Sym{Name: "a", Sect: 1}, api.Sym{Name: "a", Bind: 1}), nil},
		{with(api.Sym{Name: "a", Sect: 1}, api.Sym{Name: "a", Bind: 1, Sect: 1}), []string{"a"}},
		{with(api.Sym{Name: "b", Bind: 1, Sect: 1}, api.Sym{Name: "aa", Bind: 1, Sect: 1}, api.Sym{Name: "é", Bind: 1, Sect: 1}, api.Sym{Name: "\xff", Bind: 1, Sect: 1}, api.Sym{Name: "a", Bind: 1, Sect: 1}, api.Sym{Name: "Z", Bind: 1, Sect: 1}, api.Sym{Name: "_", Bind: 1, Sect: 1}, api.Sym{Name: "a0", Bind: 1, Sect: 1}, api.Sym{Name: "10", Bind: 1, Sect: 1}, api.Sym{Name: "9", Bind: 1, Sect: 1}), []string{"10", "9", "Z", "_", "a", "a0", "aa", "b", "é", "\xff"}},
	} {
		if got := Defines(c.o); !slices.Equal(got, c.want) {
			t.Errorf("P18.2: Defines(%+v): %q, wanted %q", c.o.Syms, got, c.want)
		}
	}
}

// TestDefinesRaw: P18.2: of an object that could not have been read, too: any bindings, sections, names; sections and groups say nothing.
func TestDefinesRaw(t *testing.T) {
	for _, bind := range []int{math.MinInt, -1, 0, 1, 2, 3, 10, 13, 257, math.MaxInt} {
		for _, sect := range []int{math.MinInt, -1, 0, 1, 2, 0xfff1, 0xfff2, 0xffff, 1 << 16, math.MaxInt} {
			for _, name := range []string{"", "x", "x\x00y", strings.Repeat("n", 201)} {
				o := api.Object{Syms: []api.Sym{{Name: name, Bind: bind, Type: 9, Sect: sect}}}
				var want []string
				if (bind == 1 || bind == 2) && sect != 0 {
					want = []string{name}
				}
				if got := Defines(o); !slices.Equal(got, want) {
					t.Errorf("P18.2: Defines(%+v): %q, wanted %q", o.Syms, got, want)
				}
			}
		}
	}
	o := api.Object{Sects: []api.Sect{{Name: "s"}}, Groups: []api.Group{{Sig: "g", Members: []int{0, 7}}}}
	if got := Defines(o); len(got) != 0 {
		t.Errorf("P18.2: an object without symbols: %q", got)
	}
	o.Syms = []api.Sym{{Name: "in", Bind: 1, Sect: 1}}
	if got := Defines(o); !slices.Equal(got, []string{"in"}) {
		t.Errorf("P18.2: a symbol in a group's section: %q", got)
	}
}

// TestDefinesMany: P18.2: so many symbols that a name is found at once, or this doesn't end in time.
func TestDefinesMany(t *testing.T) {
	const many = 200000
	var o api.Object
	var want []string
	for i := range many {
		name := fmt.Sprintf("%06d", i*7919%many)
		o.Syms = append(o.Syms, api.Sym{Name: name, Bind: 1 + i%2, Sect: 1}, api.Sym{Name: name, Bind: 1, Sect: 2}, api.Sym{Name: "u" + name, Bind: 1})
		want = append(want, fmt.Sprintf("%06d", i))
	}
	if got := Defines(o); !slices.Equal(got, want) {
		t.Errorf("P18.2: %d names of %d", len(got), many)
	}
}

// anyObject: a right object; few names, so that many are alike.
func anyObject(rnd *rand.Rand) api.Object {
	o := with()
	for range rnd.Intn(4) {
		o.Syms = append(o.Syms, api.Sym{Name: string(rune('a' + rnd.Intn(6))), Sect: []int{1, api.Abs}[rnd.Intn(2)]})
	}
	for range rnd.Intn(9) {
		s := api.Sym{Name: strings.Repeat("é", rnd.Intn(2)) + string(rune('a'+rnd.Intn(6))), Bind: 1 + rnd.Intn(2), Sect: []int{api.Undef, 1, api.Abs, api.Common}[rnd.Intn(4)], Value: uint64(rnd.Intn(5))}
		if s.Sect == api.Common {
			s.Value = 1 << s.Value
		}
		o.Syms = append(o.Syms, s)
	}
	return o
}

// TestDefinesAny: P18.2: any symbols, held against a plain walk.
func TestDefinesAny(t *testing.T) {
	rnd := rand.New(rand.NewSource(183))
	for range 20000 {
		o := anyObject(rnd)
		if rnd.Intn(2) == 0 {
			rnd.Shuffle(len(o.Syms), func(i, k int) { o.Syms[i], o.Syms[k] = o.Syms[k], o.Syms[i] })
			o.Syms[0].Bind = rnd.Intn(4)
		}
		if got, want := Defines(o), plainDefines(o); !slices.Equal(got, want) {
			t.Fatalf("P18.2: Defines(%+v): %q, wanted %q", o.Syms, got, want)
		}
	}
}

// TestDefinesOwnMemory: P18.2: the object stays as it is, the spare room behind its symbols included; what is answered is new memory.
func TestDefinesOwnMemory(t *testing.T) {
	all := []api.Sym{{}, {Name: "b", Bind: 1, Sect: 1}, {Name: "a", Bind: 1, Sect: 1}, {Name: "spare", Bind: 1, Sect: 1}}
	old := slices.Clone(all)
	o := api.Object{Syms: all[:3]}
	names := Defines(o)
	if !slices.Equal(all, old) || !slices.Equal(names, []string{"a", "b"}) {
		t.Errorf("P18.2: Defines changed its object, or is wrong: %+v, %q", all, names)
	}
	clear(names[:cap(names)])
	if again := Defines(o); !slices.Equal(all, old) || !slices.Equal(again, []string{"a", "b"}) {
		t.Errorf("P18.2: Defines again: %q", again)
	}
}

// member: a member that is the object o.
func member(t *testing.T, name string, o api.Object) api.Member {
	t.Helper()
	b, e := emit.Write(o)
	if e != api.OK {
		t.Fatalf("an object that can't be written: %+v: %v", o, e)
	}
	return api.Member{Name: name, B: b}
}

// TestBuild: P18.2: entries member by member, each with its number among all of them; a name that several define stands there for each.
func TestBuild(t *testing.T) {
	ab := member(t, "ab.o", with(api.Sym{Name: "here", Sect: 1}, api.Sym{Name: "b", Bind: 1, Sect: 1}, api.Sym{Name: "a", Bind: 2, Sect: api.Abs}, api.Sym{Name: "z", Bind: 1}))
	z := member(t, "z.o", with(api.Sym{Name: "z", Bind: 1, Sect: api.Common, Value: 4, Size: 4}, api.Sym{Name: "b", Bind: 2, Sect: 1}))
	none := member(t, "none.o", with(api.Sym{Name: "a", Bind: 1}, api.Sym{Name: "w", Bind: 2}))
	junk := api.Member{Name: "junk", B: []byte("junk")}
	empty := api.Member{Name: "empty"}
	for _, c := range []struct {
		l    []api.Member
		want []api.Entry
	}{
		{nil, nil},
		{[]api.Member{}, nil},
		{[]api.Member{junk, empty, none}, nil},
		{[]api.Member{ab}, []api.Entry{{Name: "a"}, {Name: "b"}}},
		{[]api.Member{z, ab}, []api.Entry{{Name: "b"}, {Name: "z"}, {Name: "a", Member: 1}, {Name: "b", Member: 1}}},
		{[]api.Member{ab, z}, []api.Entry{{Name: "a"}, {Name: "b"}, {Name: "b", Member: 1}, {Name: "z", Member: 1}}},
		{[]api.Member{junk, ab, empty, none, ab, junk, z}, []api.Entry{{Name: "a", Member: 1}, {Name: "b", Member: 1}, {Name: "a", Member: 4}, {Name: "b", Member: 4}, {Name: "b", Member: 6}, {Name: "z", Member: 6}}},
		{[]api.Member{{B: ab.B}, {Name: "/\n\x00", B: z.B}}, []api.Entry{{Name: "a"}, {Name: "b"}, {Name: "b", Member: 1}, {Name: "z", Member: 1}}},
	} {
		if got := Build(c.l); !slices.Equal(got, c.want) {
			t.Errorf("P18.2: Build(%s): %v, wanted %v", short(c.l), got, c.want)
		}
	}
}

// TestBuildRefused: P18.2: a member that obj.Read refuses has no entry, wherever it is wrong: one that is cut at any place, or has any byte changed, behind one that is right and ahead of another.
func TestBuildRefused(t *testing.T) {
	right := member(t, "right.o", with(api.Sym{Name: "r", Bind: 1, Sect: 1}))
	whole := member(t, "whole.o", with(api.Sym{Name: "here", Sect: 1}, api.Sym{Name: "b", Bind: 1, Sect: 1}, api.Sym{Name: "a", Bind: 2, Sect: api.Abs}))
	taken, refused := 0, 0
	try := func(what string, b []byte) {
		want := []api.Entry{{Name: "r"}}
		o, e := obj.Read(b)
		if e == api.OK {
			for _, name := range plainDefines(o) {
				want = append(want, api.Entry{Name: name, Member: 1})
			}
			taken++
		} else {
			refused++
		}
		want = append(want, api.Entry{Name: "r", Member: 2})
		if got := Build([]api.Member{right, {Name: "b", B: b}, right}); !slices.Equal(got, want) {
			t.Fatalf("P18.2: %s: %v, wanted %v", what, got, want)
		}
	}
	for n := range len(whole.B) + 1 {
		try(fmt.Sprint("cut at ", n), whole.B[:n])
	}
	for i := range whole.B {
		for _, x := range []byte{0, 1, 2, 16, 0x7f, 0x80, 0xff} {
			b := bytes.Clone(whole.B)
			b[i] = x
			try(fmt.Sprint("byte ", i, " is ", x), b)
		}
	}
	if taken < 100 || refused < 100 {
		t.Errorf("P18.2: %d members were taken, %d refused", taken, refused)
	}
	// An archive within an archive is no object.
	try("an archive", ar.Write([]api.Member{whole}, nil))
	try("too long", append(bytes.Clone(whole.B), make([]byte, api.MaxFile)...))
}

// TestBuildMost: P18.2: as many members and names as there may be, and more members than an archive may have.
func TestBuildMost(t *testing.T) {
	var l []api.Member
	var want []api.Entry
	for i := range 150 {
		o := with()
		for k := range api.MaxSyms - 1 {
			name := fmt.Sprintf("%03d.%03d", (k*7)%499, i)
			o.Syms = append(o.Syms, api.Sym{Name: name, Bind: 1, Sect: 1})
			want = append(want, api.Entry{Name: fmt.Sprintf("%03d.%03d", k, i), Member: i})
		}
		l = append(l, member(t, fmt.Sprint(i), o))
	}
	if got := Build(l); !slices.Equal(got, want) {
		t.Errorf("P18.2: %d entries of %d", len(got), len(want))
	}
}

// TestBuildAny: P18.2: any members, objects and others, each of them asked alone.
func TestBuildAny(t *testing.T) {
	rnd := rand.New(rand.NewSource(184))
	for range 2000 {
		l := make([]api.Member, rnd.Intn(6))
		var want []api.Entry
		for i := range l {
			o := anyObject(rnd)
			l[i] = member(t, "m", o)
			if rnd.Intn(4) == 0 {
				l[i].B = l[i].B[rnd.Intn(5)+1:]
				continue
			}
			for _, name := range plainDefines(o) {
				want = append(want, api.Entry{Name: name, Member: i})
			}
		}
		if got := Build(l); !slices.Equal(got, want) {
			t.Fatalf("P18.2: Build: %v, wanted %v", got, want)
		}
	}
}

// TestBuildOwnMemory: P18.2: the members stay as they are and aren't kept; what is answered is new memory.
func TestBuildOwnMemory(t *testing.T) {
	l := []api.Member{member(t, "m", with(api.Sym{Name: "b", Bind: 1, Sect: 1}, api.Sym{Name: "a", Bind: 1, Sect: 1})), {Name: "spare"}}
	old := bytes.Clone(l[0].B)
	want := []api.Entry{{Name: "a"}, {Name: "b"}}
	entries := Build(l[:1])
	if !bytes.Equal(l[0].B, old) || l[0].Name != "m" || l[1].Name != "spare" || !slices.Equal(entries, want) {
		t.Errorf("P18.2: Build changed its members, or is wrong: %v", entries)
	}
	clear(l[0].B)
	if !slices.Equal(entries, want) {
		t.Errorf("P18.2: Build kept its members: %v", entries)
	}
	copy(l[0].B, old)
	clear(entries[:cap(entries)])
	if again := Build(l[:1]); !slices.Equal(again, want) {
		t.Errorf("P18.2: Build again: %v", again)
	}
}

// TestNumbersSayNothing: P18.3: an index' names are the same, whatever its numbers are: those of no member, too.
func TestNumbersSayNothing(t *testing.T) {
	rnd := rand.New(rand.NewSource(185))
	want := []string{"one", "", "two"}
	for _, n := range []uint32{0, 1, 2, 99, 100, 1 << 16, 1 << 24, 1 << 31, math.MaxUint32} {
		for _, count := range []int{1, 2, 100, math.MaxInt} {
			numbers := []uint32{n, rnd.Uint32(), n}
			if got, e := Parse(index(3, numbers, "one\x00\x00two\x00"), count); !slices.Equal(got, want) || e != api.OK {
				t.Errorf("P18.3: numbers %d, %d members: %q, %v", numbers, count, got, e)
			}
		}
	}
}

// TestMembersTell: P18.3: an archive whose index says otherwise has the entries of its members; those that Build tells, laid down as an index, have their names.
func TestMembersTell(t *testing.T) {
	l := []api.Member{
		member(t, "first.o", with(api.Sym{Name: "f", Bind: 1, Sect: 1})),
		{Name: "text", B: []byte("no object")},
		member(t, "second.o", with(api.Sym{Name: "g", Bind: 2, Sect: 1}, api.Sym{Name: "f", Bind: 1})),
	}
	want := []api.Entry{{Name: "f", Member: 0}, {Name: "g", Member: 2}}
	for _, lie := range [][]api.Entry{nil, want, {{Name: "f", Member: 2}, {Name: "g", Member: 0}}, {{Name: "other", Member: 77}}} {
		members, told, e := ar.Read(ar.Write(l, Bytes(lie...)))
		if e != api.OK {
			t.Fatal(e)
		}
		names, e := Parse(told, len(members))
		if e != api.OK || len(names) != len(lie) {
			t.Errorf("P18.1: the index of %v: %q, %v", lie, names, e)
		}
		if got := Build(members); !slices.Equal(got, want) {
			t.Errorf("P18.3: beside the index of %v: %v, wanted %v", lie, got, want)
		}
	}
	if names, e := Parse(Bytes(Build(l)...), len(l)); !slices.Equal(names, []string{"f", "g"}) || e != api.OK {
		t.Errorf("P18.3: the names of what was built: %q, %v", names, e)
	}
}
