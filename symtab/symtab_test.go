package symtab

import (
	"bytes"
	"encoding/binary"
	"math"
	"math/rand"
	"slices"
	"strings"
	"testing"

	"dovetail/api"
	"dovetail/strtab"
)

// plainSymbol: a symbol written out field by field, as the chapter has it.
func plainSymbol(s api.Raw) []byte {
	le := binary.LittleEndian
	b := le.AppendUint32(nil, s.Name)
	b = append(b, byte(s.Bind)*16+byte(s.Type)%16, byte(s.Other))
	b = le.AppendUint16(b, uint16(s.Sect))
	b = le.AppendUint64(b, s.Value)
	return le.AppendUint64(b, s.Size)
}

// plainRead: the symbol of 24 bytes, each field read by itself.
func plainRead(b []byte) api.Raw {
	le := binary.LittleEndian
	return api.Raw{Name: le.Uint32(b), Bind: int(b[4] / 16), Type: int(b[4] % 16), Other: int(b[5]), Sect: int(le.Uint16(b[6:])), Value: le.Uint64(b[8:]), Size: le.Uint64(b[16:])}
}

// plainName: the bytes of names from off on up to a nought, of which there are at most 200.
func plainName(names []byte, off uint32) (string, bool) {
	if int(off) >= len(names) {
		return "", false
	}
	name, _, ends := strings.Cut(string(names[off:]), "\x00")
	return name, ends && len(name) <= 200
}

// plainRight: the chapter's words about a symbol that isn't the first, one by one.
func plainRight(s api.Raw, local bool, name string) bool {
	if s.Other < 0 || s.Other > 3 || s.Type < 0 || s.Type > 4 {
		return false
	}
	if local {
		return s.Bind == 0
	}
	if s.Type == 3 || s.Type == 4 {
		return false
	}
	return (s.Bind == 1 || s.Bind == 2) && name != ""
}

// plainParse: the chapter's words about a whole table, one by one.
func plainParse(b, names []byte, local uint32) ([]api.Raw, []string, bool) {
	many := int64(len(b) / 24)
	if len(b)%24 != 0 || many < 1 || many > 500 || int64(local) < 1 || int64(local) > many {
		return nil, nil, false
	}
	if !bytes.Equal(b[:24], make([]byte, 24)) {
		return nil, nil, false
	}
	l, told := []api.Raw{{}}, []string{""}
	for i := int64(1); i < many; i++ {
		s := plainRead(b[24*i:])
		name, ok := plainName(names, s.Name)
		if !ok || !plainRight(s, i < int64(local), name) {
			return nil, nil, false
		}
		l, told = append(l, s), append(told, name)
	}
	return l, told, true
}

// checked: whether Parse answers as plainParse does, and whether it is no error.
func checked(t *testing.T, what string, b, names []byte, local uint32) bool {
	t.Helper()
	l, told, good := plainParse(b, names, local)
	e := api.ErrSym
	if good {
		e = api.OK
	}
	gotL, gotTold, err := Parse(b, names, local)
	if !slices.Equal(gotL, l) || !slices.Equal(gotTold, told) || err != e {
		t.Fatalf("P12.2: %s: %d bytes, %d local: %+v, %.40q, %v, wanted %+v, %.40q, %v", what, len(b), local, gotL, gotTold, err, l, told, e)
	}
	return good
}

// must: that Parse is good, or isn't, as the test has it written down.
func must(t *testing.T, what string, b, names []byte, local uint32, want bool) {
	t.Helper()
	if checked(t, what, b, names, local) != want {
		t.Errorf("P12.2: %s: good is %v", what, !want)
	}
}

// usual: the table of names that symbols of these tests have their names in.
var usual = []byte("\x00main\x00x\x00")

// here: a local symbol such as any object has.
func here() api.Raw {
	return api.Raw{Name: 6, Bind: api.BindLocal, Type: api.SymObject, Sect: 2, Value: 8, Size: 4}
}

// all: a global symbol such as any object has.
func all() api.Raw {
	return api.Raw{Name: 1, Bind: api.BindGlobal, Type: api.SymFunc, Sect: 1, Size: 40}
}

// table: the symbols of l behind the first one.
func table(l ...api.Raw) []byte {
	b := make([]byte, 24)
	for _, s := range l {
		b = append(b, plainSymbol(s)...)
	}
	return b
}

// asLocal: s among those that are local, and last of them, with and without others behind.
func asLocal(t *testing.T, what string, s api.Raw, want bool) {
	t.Helper()
	must(t, what+", a local alone", table(s), usual, 2, want)
	must(t, what+", a local ahead", table(s, here(), all()), usual, 3, want)
	must(t, what+", the last local", table(here(), s, all(), all()), usual, 3, want)
}

// asGlobal: s among those that aren't local, with and without others ahead and behind.
func asGlobal(t *testing.T, what string, s api.Raw, want bool) {
	t.Helper()
	must(t, what+", a global alone", table(s), usual, 1, want)
	must(t, what+", the first global", table(here(), s, all()), usual, 2, want)
	must(t, what+", the last global", table(here(), all(), s), usual, 2, want)
}

// TestBytes: P12.1: symbols as bytes, none, one and several, right ones and any others.
func TestBytes(t *testing.T) {
	great := api.Raw{Name: math.MaxUint32, Bind: 15, Type: 15, Other: 255, Sect: 65535, Value: math.MaxUint64, Size: math.MaxUint64}
	each := api.Raw{Name: 0x04030201, Bind: 0x0, Type: 0x5, Other: 6, Sect: 0x0807, Value: 0x100f0e0d0c0b0a09, Size: 0x1817161514131211}
	count := make([]byte, 24)
	for i := range count {
		count[i] = byte(i + 1)
	}
	none, ones := make([]byte, 24), bytes.Repeat([]byte{0xff}, 24)
	for _, c := range []struct {
		l    []api.Raw
		want []byte
	}{
		{nil, nil},
		{[]api.Raw{}, nil},
		{[]api.Raw{{}}, none},
		{[]api.Raw{each}, count},
		{[]api.Raw{great}, ones},
		{[]api.Raw{each, {}, great, each}, slices.Concat(count, none, ones, count)},
		{[]api.Raw{{Bind: 2, Type: 1}}, append([]byte{0, 0, 0, 0, 0x21}, make([]byte, 19)...)},
		{[]api.Raw{{Bind: 10, Type: 9, Other: 8, Sect: api.Common}}, append([]byte{0, 0, 0, 0, 0xa9, 8, 0xf2, 0xff}, make([]byte, 16)...)},
	} {
		if got := Bytes(c.l...); !bytes.Equal(got, c.want) {
			t.Errorf("P12.1: Bytes(%+v): %x, wanted %x", c.l, got, c.want)
		}
	}
}

// TestBytesLowest: P12.1: of numbers that are too great, or below 0, the lowest bits, and no other field is touched.
func TestBytesLowest(t *testing.T) {
	numbers := []int{0, 1, 2, 3, 4, 7, 8, 15, 16, 17, 31, 32, 255, 256, 257, 4095, 65535, 65536, 65537, 1 << 20, 1<<31 - 1, 1 << 31, 1<<32 - 1, 1 << 32, 1<<32 + 1, 1 << 47, math.MaxInt, -1, -2, -15, -16, -17, -255, -256, -257, -65535, -65536, -65537, -1 << 31, -1 << 32, math.MinInt, math.MinInt + 1}
	low := func(x, m int) int { return (x%m + m) % m }
	for _, x := range numbers {
		for _, other := range []int{0, -1} {
			s := api.Raw{Name: uint32(other), Bind: low(other, 16), Type: low(other, 16), Other: low(other, 256), Sect: low(other, 65536), Value: uint64(other), Size: uint64(other)}
			for field := range 5 {
				in, want := s, s
				switch field {
				case 0:
					in.Bind, want.Bind = x, low(x, 16)
				case 1:
					in.Type, want.Type = x, low(x, 16)
				case 2:
					in.Other, want.Other = x, low(x, 256)
				case 3:
					in.Sect, want.Sect = x, low(x, 65536)
				case 4:
					in.Bind, in.Type, in.Other, in.Sect = x, x, x, x
					want.Bind, want.Type, want.Other, want.Sect = low(x, 16), low(x, 16), low(x, 256), low(x, 65536)
				}
				got := Bytes(in)
				if len(got) != 24 || plainRead(got) != want {
					t.Errorf("P12.1: Bytes(%+v): %x", in, got)
				}
			}
		}
	}
}

// TestBytesMany: P12.1: far more symbols than a table may have, so many that each is put down at once, or this doesn't end in time.
func TestBytesMany(t *testing.T) {
	l := make([]api.Raw, 300000)
	for i := range l {
		l[i] = api.Raw{Name: uint32(i), Sect: i & 0xffff, Size: ^uint64(i)}
	}
	b := Bytes(l...)
	if len(b) != 24*len(l) {
		t.Fatalf("P12.1: %d bytes", len(b))
	}
	for i := range l {
		if plainRead(b[24*i:]) != l[i] {
			t.Fatalf("P12.1: number %d of many: %x", i, b[24*i:][:24])
		}
	}
}

// TestParse: P12.2: symbols and their names, each field where the chapter has it.
func TestParse(t *testing.T) {
	want := []api.Raw{
		{},
		{Bind: api.BindLocal, Type: api.SymFile, Sect: api.Abs},
		{Name: 6, Bind: api.BindLocal, Type: api.SymSection, Other: 3, Sect: 0x0807, Value: 0x100f0e0d0c0b0a09, Size: 0x1817161514131211},
		{Name: 1, Bind: api.BindGlobal, Type: api.SymFunc, Other: 1, Sect: 0xffff, Value: math.MaxUint64},
		{Name: 3, Bind: api.BindWeak, Type: api.SymNone, Other: 2, Size: math.MaxUint64},
		{Name: 1, Bind: api.BindGlobal, Type: api.SymObject, Sect: api.Common, Value: 16},
	}
	l, told, e := Parse(table(want[1:]...), usual, 3)
	if !slices.Equal(l, want) || !slices.Equal(told, []string{"", "", "x", "main", "in", "main"}) || e != api.OK {
		t.Errorf("P12.2: %+v, %q, %v", l, told, e)
	}
}

// TestParseFirst: P12.2: the first symbol is all noughts, and has no name: any table of names will do for it, and none.
func TestParseFirst(t *testing.T) {
	for _, names := range [][]byte{nil, {}, {0}, usual, []byte("no nought"), []byte("one\x00"), bytes.Repeat([]byte("n"), 300)} {
		l, told, e := Parse(make([]byte, 24), names, 1)
		if !slices.Equal(l, []api.Raw{{}}) || !slices.Equal(told, []string{""}) || e != api.OK {
			t.Errorf("P12.2: 24 noughts, the names %.20q: %+v, %q, %v", names, l, told, e)
		}
	}
	for i := range 24 {
		for bit := range 8 {
			b := table(here(), all())
			b[i] = 1 << bit
			must(t, "the first alone isn't all noughts", b[:24], usual, 1, false)
			must(t, "the first isn't all noughts", b, usual, 2, false)
		}
	}
}

// TestParseLength: P12.2: a multiple of 24 bytes, those of 1 to MaxSyms symbols; the spare room behind them doesn't count.
func TestParseLength(t *testing.T) {
	whole := table(here(), all())
	for n := range len(whole) + 1 {
		for local := range uint32(5) {
			want := n == 24 && local == 1 || n == 48 && local == 2 || n == 72 && local == 2
			must(t, "a table cut short", whole[:n], usual, local, want)
		}
	}
	noughts := make([]byte, 24*1000)
	for n := range len(noughts) {
		if n%24 < 2 || n%24 == 23 {
			must(t, "noughts", noughts[:n], usual, uint32(n/24), n%24 == 0 && n >= 24 && n <= 24*500)
		}
	}
	must(t, "no bytes", nil, usual, 0, false)
	must(t, "no bytes", nil, usual, 1, false)
	must(t, "no bytes, no names", nil, nil, 1, false)
}

// TestParseMany: P12.2: MaxSyms symbols and one more, be they local or global ones, and far more: refused in time.
func TestParseMany(t *testing.T) {
	for many, want := range map[int]bool{1: true, 2: true, 255: true, 256: true, 257: true, 499: true, 500: true, 501: false, 502: false, 1000: false, 65537: false} {
		locals, globals := table(slices.Repeat([]api.Raw{here()}, many-1)...), table(slices.Repeat([]api.Raw{all()}, many-1)...)
		must(t, "many local ones", locals, usual, uint32(many), want)
		must(t, "many global ones", globals, usual, 1, want)
		if many > 1 {
			must(t, "many local ones, the last isn't", slices.Concat(locals[:24*(many-1)], globals[24*(many-1):]), usual, uint32(many), false)
			must(t, "many global ones, the last isn't", slices.Concat(globals[:24*(many-1)], locals[24*(many-1):]), usual, 1, false)
			must(t, "many local ones, the last is global", slices.Concat(locals[:24*(many-1)], globals[24*(many-1):]), usual, uint32(many-1), want)
		}
	}
	must(t, "far too many", make([]byte, 24<<20), usual, 1, false)
	must(t, "far too many, all local", make([]byte, 24<<20), usual, 1<<20, false)
}

// TestParseLocal: P12.2: local is 1 to the number of symbols, and parts the local ones from all others; nothing wraps.
func TestParseLocal(t *testing.T) {
	for locals := range 4 {
		for globals := range 4 {
			l := append(slices.Repeat([]api.Raw{here()}, locals), slices.Repeat([]api.Raw{all()}, globals)...)
			b := table(l...)
			for local := range uint32(12) {
				must(t, "a number of local ones", b, usual, local, int(local) == 1+locals)
			}
			right := uint32(1 + locals)
			for _, local := range []uint32{256, 1 << 16, 1 << 31, math.MaxUint32 - 7, -right} {
				must(t, "a number of local ones far off", b, usual, local, false)
				must(t, "a number of local ones far off", b, usual, local+right, false)
			}
		}
	}
}

// TestParseBind: P12.2: below local the binding is local; else it is global or weak.
func TestParseBind(t *testing.T) {
	for bind := range 16 {
		s := here()
		s.Bind = bind
		asLocal(t, "a binding", s, bind == 0)
		asGlobal(t, "a binding", s, bind == 1 || bind == 2)
	}
}

// TestParseType: P12.2: the type is SymNone to SymFile; SymSection and SymFile are of local ones alone.
func TestParseType(t *testing.T) {
	for kind := range 16 {
		s := here()
		s.Type = kind
		asLocal(t, "a type", s, kind <= 4)
		for bind := range 16 {
			s.Bind = bind
			asGlobal(t, "a type", s, kind <= 2 && (bind == 1 || bind == 2))
		}
	}
}

// TestParseOther: P12.2: Other is 0 to 3.
func TestParseOther(t *testing.T) {
	for other := range 256 {
		s := here()
		s.Other = other
		asLocal(t, "another", s, other <= 3)
		s = all()
		s.Other = other
		asGlobal(t, "another", s, other <= 3)
	}
}

// TestParseName: P12.2: each name is one of the table: within it, with a nought behind it, of at most MaxName bytes.
func TestParseName(t *testing.T) {
	for off := range uint32(len(usual) + 3) {
		s, g := here(), all()
		s.Name, g.Name = off, off
		asLocal(t, "a name", s, int(off) < len(usual))
		asGlobal(t, "a name", g, int(off) < len(usual) && usual[off] != 0)
	}
	for _, off := range []uint32{256 + 1, 1<<16 + 1, 1 << 31, 1<<31 + 1, math.MaxUint32 - 1, math.MaxUint32} {
		s, g := here(), all()
		s.Name, g.Name = off, off
		asLocal(t, "a name far off", s, false)
		asGlobal(t, "a name far off", g, false)
	}
	for n, want := range map[int]bool{1: true, 199: true, 200: true, 201: false, 255: false, 256: false, 257: false, 1000: false} {
		names := []byte("\x00" + strings.Repeat("n", n) + "\x00")
		s, g := here(), all()
		s.Name, g.Name = 1, 1
		must(t, "a long name, local", table(s), names, 2, want)
		must(t, "a long name, global", table(g), names, 1, want)
		must(t, "a name without a nought, local", table(s), names[:n+1], 2, false)
		must(t, "a name without a nought, global", table(g), names[:n+1], 1, false)
	}
}

// TestParseNoName: P12.2: a local symbol may be without a name, but its Name is one of the table; any other has a name.
func TestParseNoName(t *testing.T) {
	for kind := range 5 {
		asLocal(t, "without a name", api.Raw{Type: kind}, true)
		asLocal(t, "without a name, at a nought further on", api.Raw{Name: 5, Type: kind}, true)
		asGlobal(t, "without a name", api.Raw{Bind: 1, Type: kind}, false)
		asGlobal(t, "without a name, weak", api.Raw{Bind: 2, Type: kind}, false)
		asGlobal(t, "without a name, at a nought further on", api.Raw{Name: 5, Bind: 1, Type: kind}, false)
	}
	for _, names := range [][]byte{nil, {}, []byte("m"), []byte("main")} {
		must(t, "no table of names, local", table(api.Raw{}), names, 2, false)
		must(t, "no table of names, global", table(api.Raw{Bind: 1}), names, 1, false)
	}
	// A table that doesn't begin with a nought gives Name 0 a name; the first symbol has none nevertheless.
	_, told, e := Parse(table(api.Raw{}, api.Raw{Bind: 1}), []byte("main\x00"), 2)
	if !slices.Equal(told, []string{"", "main", "main"}) || e != api.OK {
		t.Errorf("P12.2: names that begin at 0: %q, %v", told, e)
	}
}

// TestParseNamesSpare: P12.2: a nought in the spare room behind the names isn't theirs.
func TestParseNamesSpare(t *testing.T) {
	names := []byte("\x00main\x00x\x00")
	must(t, "a nought in the spare room", table(api.Raw{Name: 1, Bind: 1}), names[:5], 1, false)
	must(t, "the same within", table(api.Raw{Name: 1, Bind: 1}), names[:6], 1, true)
	must(t, "a name in the spare room", table(api.Raw{Name: 6}), names[:6], 2, false)
	must(t, "its nought alone in the spare room", table(api.Raw{Name: 6}), names[:7], 2, false)
	must(t, "all of it within", table(api.Raw{Name: 6}), names, 2, true)
}

// TestParseNotAsked: P12.2: any Sect, Value and Size; and symbols may be alike.
func TestParseNotAsked(t *testing.T) {
	for _, sect := range []int{0, 1, 99, 100, 255, 256, 0x7fff, 0x8000, 0xff00, api.Abs - 1, api.Abs, api.Common, 0xffff} {
		for _, x := range []uint64{0, 1, 3, 1 << 26, 1<<26 + 1, 1 << 32, 1 << 63, math.MaxUint64} {
			for _, s := range []api.Raw{here(), all()} {
				s.Sect, s.Value, s.Size = sect, x, ^x
				if s.Bind == 0 {
					asLocal(t, "what isn't asked", s, true)
				} else {
					asGlobal(t, "what isn't asked", s, true)
				}
			}
		}
	}
}

// TestParseEachByte: P12.2: each byte of a table as each other one.
func TestParseEachByte(t *testing.T) {
	whole := table(here(), api.Raw{Name: 5, Type: api.SymSection, Other: 2}, all(), api.Raw{Name: 6, Bind: api.BindWeak})
	for i := range whole {
		b := bytes.Clone(whole)
		for x := range 256 {
			b[i] = byte(x)
			for local := uint32(2); local < 5; local++ {
				checked(t, "one byte", b, usual, local)
			}
		}
	}
}

// anyTable: symbols that are right, their table of names, and how many are local.
func anyTable(rnd *rand.Rand) ([]api.Raw, []byte, uint32) {
	names := []byte(strings.Repeat("\x00ab\x00c", 1+rnd.Intn(4)) + "\x00")
	l := make([]api.Raw, 1+rnd.Intn(7))
	local := 1 + rnd.Intn(len(l))
	for i := range l[1:] {
		s := api.Raw{Name: uint32(rnd.Intn(len(names))), Type: rnd.Intn(5), Other: rnd.Intn(4), Sect: rnd.Intn(65536), Value: rnd.Uint64(), Size: rnd.Uint64()}
		if i+1 >= local {
			s.Bind, s.Type = 1+rnd.Intn(2), rnd.Intn(3)
			for names[s.Name] == 0 {
				s.Name = uint32(rnd.Intn(len(names)))
			}
		}
		l[i+1] = s
	}
	return l, names, uint32(local)
}

// TestAnyTable: P12.2: any symbols, right ones and those with some bits changed, held against the chapter's words one by one.
func TestAnyTable(t *testing.T) {
	rnd := rand.New(rand.NewSource(21))
	good, bad := 0, 0
	for run := range 30000 {
		l, names, local := anyTable(rnd)
		b := table(l[1:]...)
		for range rnd.Intn(3) {
			b[rnd.Intn(len(b))] ^= 1 << rnd.Intn(8)
		}
		switch run % 16 {
		case 0:
			rnd.Read(b[rnd.Intn(len(b)):])
		case 1:
			b = b[:rnd.Intn(len(b))]
		case 2:
			local += uint32(rnd.Intn(5)) - 2
		case 3:
			names = names[:rnd.Intn(len(names))]
		}
		if checked(t, "any table", b, names, local) {
			good++
		} else {
			bad++
		}
	}
	if good < 3000 || bad < 3000 {
		t.Errorf("P12.2: %d tables were right, %d wrong", good, bad)
	}
}

// TestBackAgain: P12.1, P12.2: symbols are read from their bytes as they were, and their names from the table that strtab builds.
func TestBackAgain(t *testing.T) {
	rnd := rand.New(rand.NewSource(22))
	for range 5000 {
		want, _, local := anyTable(rnd)
		names := make([]string, len(want))
		for i := range names[1:] {
			names[i+1] = strings.Repeat(string(rune('a'+rnd.Intn(26))), 1+rnd.Intn(api.MaxName))
		}
		tab, at := strtab.Build(names...)
		for i := range want {
			want[i].Name = at[i]
		}
		b := Bytes(want...)
		l, told, e := Parse(b, tab, local)
		if !slices.Equal(l, want) || !slices.Equal(told, names) || e != api.OK {
			t.Fatalf("P12.2: %+v: %+v, %.40q, %v", want, l, told, e)
		}
		if again := Bytes(l...); !bytes.Equal(again, b) {
			t.Fatalf("P12.1: %+v: %x", want, again)
		}
	}
}

// TestLocalsAhead: P12.3: of whatever Parse tells, the first local symbols are the local ones, and no other is; a table in another order has no right number of them.
func TestLocalsAhead(t *testing.T) {
	for many := range 7 {
		for order := range 1 << many {
			var l []api.Raw
			locals, sorted := 0, true
			for i := range many {
				if order>>i&1 == 1 {
					l = append(l, all())
					continue
				}
				sorted = sorted && locals == i
				locals++
				l = append(l, here())
			}
			b := table(l...)
			for local := range uint32(many + 3) {
				told, _, e := Parse(b, usual, local)
				if (e == api.OK) != (sorted && int(local) == 1+locals) {
					t.Fatalf("P12.3: %d symbols, of which %b aren't local, %d local: %v", many, order, local, e)
				}
				for i, s := range told {
					if (s.Bind == api.BindLocal) != (i < int(local)) {
						t.Fatalf("P12.3: %d local: number %d is %+v", local, i, s)
					}
				}
			}
		}
	}
}

// TestOwnMemory: P12.1, P12.2: what is handed in is neither changed nor kept, the spare room behind it included; what is answered is new memory.
func TestOwnMemory(t *testing.T) {
	want := []api.Raw{{}, here(), all()}
	names := []string{"", "x", "main"}
	b, tab := append(table(want[1:]...), "spare"...), append(bytes.Clone(usual), "spare"...)
	oldB, oldTab := bytes.Clone(b), bytes.Clone(tab)
	l, told, e := Parse(b[:72], tab[:len(usual)], 2)
	if !bytes.Equal(b, oldB) || !bytes.Equal(tab, oldTab) || e != api.OK {
		t.Errorf("P12.2: what was handed in was changed, or is wrong: %x, %q, %v", b, tab, e)
	}
	clear(b)
	clear(tab)
	if !slices.Equal(l, want) || !slices.Equal(told, names) {
		t.Errorf("P12.2: what was handed in was kept: %+v, %q", l, told)
	}
	copy(b, oldB)
	copy(tab, oldTab)
	clear(l[:cap(l)])
	clear(told[:cap(told)])
	checked(t, "again", b[:72], tab[:len(usual)], 2)

	list := []api.Raw{here(), all(), {Size: 9}}
	first := Bytes(list[:2]...)
	clear(first[:cap(first)])
	if !slices.Equal(list, []api.Raw{here(), all(), {Size: 9}}) {
		t.Errorf("P12.1: Bytes changed its list: %+v", list)
	}
	if second := Bytes(list[:2]...); !bytes.Equal(second, slices.Concat(plainSymbol(here()), plainSymbol(all()))) {
		t.Errorf("P12.1: Bytes again: %x", second)
	}
}
