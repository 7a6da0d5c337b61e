package rela

import (
	"bytes"
	"encoding/binary"
	"math"
	"math/big"
	"math/rand"
	"slices"
	"testing"

	"dovetail/api"
)

// widths: the types of package api, and how many bytes each touches.
var widths = map[uint32]int{
	1: 4, 2: 8, 16: 4, 17: 4, 18: 8, 19: 8, 23: 4, 24: 4, 25: 4, 26: 4, 27: 4, 28: 4, 51: 0,
}

// plainWidth: the chapter's words about a type's width.
func plainWidth(t uint32) int {
	if n, ok := widths[t]; ok {
		return n
	}
	return 4
}

// plainReloc: a relocation written out field by field, as the chapter has it.
func plainReloc(r api.Rela) []byte {
	le := binary.LittleEndian
	b := le.AppendUint64(nil, r.Off)
	b = le.AppendUint32(b, r.Type)
	b = le.AppendUint32(b, r.Sym)
	return le.AppendUint64(b, uint64(r.Add))
}

// plainRead: the relocation of 24 bytes, each field read by itself.
func plainRead(b []byte) api.Rela {
	le := binary.LittleEndian
	return api.Rela{Off: le.Uint64(b), Type: le.Uint32(b[8:]), Sym: le.Uint32(b[12:]), Add: int64(le.Uint64(b[16:]))}
}

// plainRight: the chapter's words about one relocation, with numbers that have no bounds.
func plainRight(r api.Rela, size uint64, syms int) bool {
	end := new(big.Int).SetUint64(r.Off)
	end.Add(end, big.NewInt(int64(plainWidth(r.Type))))
	below := big.NewInt(int64(r.Sym)).Cmp(big.NewInt(int64(syms))) < 0
	return below && end.Cmp(new(big.Int).SetUint64(size)) <= 0
}

// plainParse: the chapter's words about a whole table, one by one.
func plainParse(b []byte, size uint64, syms int) ([]api.Rela, bool) {
	if len(b)%24 != 0 || len(b)/24 > 2000 {
		return nil, false
	}
	var l []api.Rela
	for i := 0; i < len(b); i += 24 {
		r := plainRead(b[i:])
		if !plainRight(r, size, syms) {
			return nil, false
		}
		l = append(l, r)
	}
	return l, true
}

// checked: whether Parse answers as plainParse does, and whether it is no error.
func checked(t *testing.T, what string, b []byte, size uint64, syms int) bool {
	t.Helper()
	l, good := plainParse(b, size, syms)
	e := api.ErrRela
	if good {
		e = api.OK
	}
	got, err := Parse(b, size, syms)
	if !slices.Equal(got, l) || err != e {
		t.Fatalf("P13.2: %s: %d bytes, size %d, %d symbols: %+v, %v, wanted %+v, %v", what, len(b), size, syms, got, err, l, e)
	}
	return good
}

// must: that Parse is good, or isn't, as the test has it written down.
func must(t *testing.T, what string, b []byte, size uint64, syms int, want bool) {
	t.Helper()
	if checked(t, what, b, size, syms) != want {
		t.Errorf("P13.2: %s: %d bytes, size %d, %d symbols: good is %v", what, len(b), size, syms, !want)
	}
}

// table: the relocations of l, one behind another.
func table(l ...api.Rela) []byte {
	var b []byte
	for _, r := range l {
		b = append(b, plainReloc(r)...)
	}
	return b
}

// among: r alone, and ahead of, between and behind others that touch nothing and have the first symbol.
func among(t *testing.T, what string, r api.Rela, size uint64, syms int, want bool) {
	t.Helper()
	none := api.Rela{Type: api.RRelax}
	must(t, what+", alone", table(r), size, syms, want)
	must(t, what+", the first", table(r, none, none), size, syms, want)
	must(t, what+", between", table(none, r, none), size, syms, want)
	must(t, what+", the last", table(none, none, r), size, syms, want)
}

// types: those of package api, their neighbours, and others that aren't known.
func types() []uint32 {
	l := []uint32{1 << 8, 1<<8 + 2, 1<<16 + 18, 1 << 31, 1<<31 + 51, math.MaxUint32 - 1, math.MaxUint32}
	for x := range uint32(64) {
		l = append(l, x)
	}
	return l
}

// TestBytes: P13.1: relocations as bytes, none, one and several, of any numbers.
func TestBytes(t *testing.T) {
	great := api.Rela{Off: math.MaxUint64, Type: math.MaxUint32, Sym: math.MaxUint32, Add: -1}
	each := api.Rela{Off: 0x0807060504030201, Type: 0x0c0b0a09, Sym: 0x100f0e0d, Add: 0x1817161514131211}
	count := make([]byte, 24)
	for i := range count {
		count[i] = byte(i + 1)
	}
	none, ones := make([]byte, 24), bytes.Repeat([]byte{0xff}, 24)
	lone := func(at int, x ...byte) []byte {
		b := make([]byte, 24)
		copy(b[at:], x)
		return b
	}
	for _, c := range []struct {
		l    []api.Rela
		want []byte
	}{
		{nil, nil},
		{[]api.Rela{}, nil},
		{[]api.Rela{{}}, none},
		{[]api.Rela{each}, count},
		{[]api.Rela{great}, ones},
		{[]api.Rela{each, {}, great, each}, slices.Concat(count, none, ones, count)},
		{[]api.Rela{{Off: 1 << 63}}, lone(7, 0x80)},
		{[]api.Rela{{Type: api.RRelax}}, lone(8, 51)},
		{[]api.Rela{{Type: math.MaxUint32}}, lone(8, 255, 255, 255, 255)},
		{[]api.Rela{{Sym: math.MaxUint32}}, lone(12, 255, 255, 255, 255)},
		{[]api.Rela{{Add: -2}}, lone(16, 254, 255, 255, 255, 255, 255, 255, 255)},
		{[]api.Rela{{Add: math.MaxInt64}}, lone(16, 255, 255, 255, 255, 255, 255, 255, 127)},
		{[]api.Rela{{Add: math.MinInt64}}, lone(23, 0x80)},
	} {
		if got := Bytes(c.l...); !bytes.Equal(got, c.want) {
			t.Errorf("P13.1: Bytes(%+v): %x, wanted %x", c.l, got, c.want)
		}
	}
}

// TestBytesMany: P13.1: far more relocations than a table may have, so many that each is put down at once, or this doesn't end in time.
func TestBytesMany(t *testing.T) {
	l := make([]api.Rela, 300000)
	for i := range l {
		l[i] = api.Rela{Off: ^uint64(i), Type: uint32(i), Sym: ^uint32(i), Add: -int64(i)}
	}
	b := Bytes(l...)
	if len(b) != 24*len(l) {
		t.Fatalf("P13.1: %d bytes", len(b))
	}
	for i := range l {
		if plainRead(b[24*i:]) != l[i] {
			t.Fatalf("P13.1: number %d of many: %x", i, b[24*i:][:24])
		}
	}
}

// TestTypes: P13.1: which types are known, and how many bytes each touches, the unknown ones too.
func TestTypes(t *testing.T) {
	check := func(x uint32) {
		_, known := widths[x]
		if Known(x) != known || Width(x) != plainWidth(x) {
			t.Errorf("P13.1: type %d: known %v, width %d", x, Known(x), Width(x))
		}
	}
	for x := range uint32(1 << 17) {
		check(x)
		check(^x)
		check(1<<31 + x)
		check(1<<24 + x)
	}
	for x := range widths {
		for bit := range 32 {
			check(x ^ 1<<bit)
		}
	}
}

// TestTypesByName: P13.1: the types of package api, by their names.
func TestTypesByName(t *testing.T) {
	for width, l := range map[int][]uint32{
		8: {api.R64, api.RCall, api.RCallPlt},
		4: {api.R32, api.RBranch, api.RJal, api.RPcHi20, api.RPcLo12I, api.RPcLo12S, api.RHi20, api.RLo12I, api.RLo12S},
		0: {api.RRelax},
	} {
		for _, x := range l {
			if !Known(x) || Width(x) != width {
				t.Errorf("P13.1: type %d: known %v, width %d, wanted %d", x, Known(x), Width(x), width)
			}
		}
	}
}

// TestParse: P13.2: relocations, each field where the chapter has it, in the table's order, though it isn't that of Off, and some are alike.
func TestParse(t *testing.T) {
	want := []api.Rela{
		{Off: 0x0807060504030201, Type: 0x0c0b0a09, Sym: 0x100f0e0d, Add: 0x1817161514131211},
		{Off: 8, Type: api.RCall, Sym: 3, Add: -1},
		{Off: 8, Type: api.RRelax},
		{Off: 8, Type: api.RCall, Sym: 3, Add: -1},
		{Off: 3, Type: api.R32, Sym: 2, Add: math.MinInt64},
		{Off: 1 << 63, Type: api.R64, Sym: 1, Add: math.MaxInt64},
	}
	l, e := Parse(table(want...), math.MaxUint64, 0x100f0e0e)
	if !slices.Equal(l, want) || e != api.OK {
		t.Errorf("P13.2: %+v, %v", l, e)
	}
}

// TestParseNone: P13.2: a table without relocations is one, whatever the section's size and the symbols' number are.
func TestParseNone(t *testing.T) {
	for _, size := range []uint64{0, 1, 1 << 20, math.MaxUint64} {
		for _, syms := range []int{math.MinInt, -1, 0, 1, 500, math.MaxInt} {
			must(t, "no bytes", nil, size, syms, true)
			must(t, "no bytes, with spare room", make([]byte, 0, 30), size, syms, true)
		}
	}
}

// TestParseLength: P13.2: a multiple of 24 bytes; the spare room behind them doesn't count.
func TestParseLength(t *testing.T) {
	whole := table(slices.Repeat([]api.Rela{{Type: api.R32}}, 9)...)
	for n := range len(whole) + 1 {
		must(t, "a table cut short", whole[:n], 4, 1, n%24 == 0)
		must(t, "a table cut short, too small a section", whole[:n], 3, 1, n == 0)
		must(t, "a table cut short, no symbol", whole[:n], 4, 0, n == 0)
	}
	last := table(api.Rela{}, api.Rela{Off: 1})
	must(t, "a wrong one in the spare room", last[:24], 4, 1, true)
	must(t, "a wrong one within", last, 4, 1, false)
}

// TestParseMany: P13.2: MaxRels relocations and one more, and far more: refused in time.
func TestParseMany(t *testing.T) {
	for many, want := range map[int]bool{1: true, 255: true, 256: true, 500: true, 1999: true, 2000: true, 2001: false, 2002: false, 4000: false, 65536: false, 65537: false} {
		b := make([]byte, 24*many)
		must(t, "many", b, 4, 1, want)
		must(t, "many, the last leads beyond", slices.Concat(b[24:], table(api.Rela{Off: 1})), 4, 1, false)
		must(t, "many, the last has no symbol", slices.Concat(b[24:], table(api.Rela{Sym: 1})), 4, 1, false)
		must(t, "many, and some bytes", append(b, 0), 4, 1, false)
	}
	must(t, "far too many", make([]byte, 24<<20), 4, 1, false)
}

// TestParseSym: P13.2: each symbol's number is below syms, and below 0 there is none; nothing wraps.
func TestParseSym(t *testing.T) {
	for sym := range uint32(20) {
		for syms := -20; syms < 40; syms++ {
			// Those of among have the symbol 0: it is there wherever sym is.
			among(t, "a symbol", api.Rela{Sym: sym, Type: api.R32}, 4, syms, int(sym) < syms)
		}
	}
	for _, sym := range []uint32{0, 1, 499, 500, 1 << 16, 1<<31 - 1, 1 << 31, 1<<31 + 1, math.MaxUint32 - 1, math.MaxUint32} {
		s := int(sym)
		for _, syms := range []int{s - 1, s, -s, -s - 1, math.MinInt, math.MinInt + 1, math.MinInt + s + 1, -1 << 32, -1<<32 + s + 1, -1 << 31, -1} {
			among(t, "a symbol that isn't there", api.Rela{Sym: sym, Type: api.R32}, 4, syms, false)
		}
		for _, syms := range []int{s + 1, s + 2, 1 << 32, 1<<32 + 1, 1 << 40, math.MaxInt} {
			among(t, "a symbol that is there", api.Rela{Sym: sym, Type: api.R32}, 4, syms, true)
		}
	}
}

// TestParseWidth: P13.2: the bytes that a type touches lie within the section, of each type at each end; of none the place itself does.
func TestParseWidth(t *testing.T) {
	for _, x := range types() {
		width := uint64(plainWidth(x))
		for off := range uint64(20) {
			for size := range uint64(32) {
				must(t, "a place", table(api.Rela{Off: off, Type: x}), size, 1, off+width <= size)
			}
		}
		among(t, "up to the end", api.Rela{Off: 100, Type: x}, 100+width, 1, true)
		among(t, "one past the end", api.Rela{Off: 101, Type: x}, 100+width, 1, false)
	}
}

// TestParseFar: P13.2: places so far off that a sum would wrap.
func TestParseFar(t *testing.T) {
	for _, x := range types() {
		width := uint64(plainWidth(x))
		for _, size := range []uint64{0, 3, 4, 7, 8, 1 << 20, 1 << 32, 1<<63 - 1, 1 << 63, math.MaxUint64 - 8, math.MaxUint64 - 1, math.MaxUint64} {
			for d := range uint64(20) {
				for _, off := range []uint64{-d, -d - 1, 1<<63 + d, 1<<63 - d, size - d, size + d, size - width - d, size - width + d} {
					checked(t, "a place far off", table(api.Rela{Off: off, Type: x}), size, 1)
				}
			}
		}
		among(t, "the last place of all", api.Rela{Off: math.MaxUint64 - width, Type: x}, math.MaxUint64, 1, true)
		among(t, "past the last place", api.Rela{Off: math.MaxUint64 - 3, Type: x}, math.MaxUint64, 1, width == 0)
		among(t, "past the first place", api.Rela{Off: math.MaxUint64 - 3, Type: x}, 16, 1, false)
	}
}

// TestParseNotAsked: P13.2: any type, whether it is known or not, and any Add.
func TestParseNotAsked(t *testing.T) {
	for _, x := range types() {
		for _, add := range []int64{0, 1, -1, 2047, -2048, math.MaxInt32, math.MinInt32, math.MaxInt64, math.MinInt64} {
			among(t, "what isn't asked", api.Rela{Off: 8, Type: x, Sym: 4, Add: add}, 16, 5, true)
		}
	}
}

// TestParseEachByte: P13.2: each byte of a table as each other one.
func TestParseEachByte(t *testing.T) {
	whole := table(api.Rela{Off: 4, Type: api.RCall, Sym: 2, Add: -4}, api.Rela{Off: 12, Type: api.RRelax}, api.Rela{Off: 8, Type: api.R32, Sym: 1})
	for i := range whole {
		b := bytes.Clone(whole)
		for x := range 256 {
			b[i] = byte(x)
			for syms := range 4 {
				checked(t, "one byte", b, 12, syms)
			}
			checked(t, "one byte, a great section", b, 1<<32, 1<<20)
		}
	}
}

// anyTable: relocations that are right, their section's size, and how many symbols there are.
func anyTable(rnd *rand.Rand) ([]api.Rela, uint64, int) {
	size, syms := max(9, rnd.Uint64()>>rnd.Intn(64)), 1+rnd.Intn(1<<rnd.Intn(33))
	l := make([]api.Rela, rnd.Intn(8))
	all := types()
	for i := range l {
		l[i] = api.Rela{Type: all[rnd.Intn(len(all))], Sym: uint32(rnd.Intn(syms)), Add: int64(rnd.Uint64())}
		room := size - uint64(plainWidth(l[i].Type))
		l[i].Off = room
		if rnd.Intn(3) > 0 {
			l[i].Off = rnd.Uint64() % room
		}
	}
	return l, size, syms
}

// TestAnyTable: P13.2: any relocations, right ones and those with some bits changed, held against the chapter's words one by one.
func TestAnyTable(t *testing.T) {
	rnd := rand.New(rand.NewSource(31))
	good, bad := 0, 0
	for run := range 30000 {
		l, size, syms := anyTable(rnd)
		b := table(l...)
		for range min(len(b), rnd.Intn(3)) {
			b[rnd.Intn(len(b))] ^= 1 << rnd.Intn(8)
		}
		switch run % 16 {
		case 0:
			rnd.Read(b[rnd.Intn(len(b)+1):])
		case 1:
			b = b[:rnd.Intn(len(b)+1)]
		case 2:
			syms = rnd.Intn(syms+2) - 1
		case 3:
			size -= uint64(rnd.Intn(9))
		}
		if checked(t, "any table", b, size, syms) {
			good++
		} else {
			bad++
		}
	}
	if good < 3000 || bad < 3000 {
		t.Errorf("P13.2: %d tables were right, %d wrong", good, bad)
	}
}

// TestBackAgain: P13.1, P13.2: relocations are read from their bytes as they were.
func TestBackAgain(t *testing.T) {
	rnd := rand.New(rand.NewSource(32))
	for range 5000 {
		want, size, syms := anyTable(rnd)
		b := Bytes(want...)
		l, e := Parse(b, size, syms)
		if !slices.Equal(l, want) || e != api.OK {
			t.Fatalf("P13.2: %+v, size %d, %d symbols: %+v, %v", want, size, syms, l, e)
		}
		if again := Bytes(l...); !bytes.Equal(again, b) {
			t.Fatalf("P13.1: %+v: %x", want, again)
		}
	}
}

// TestNotBeyond: P13.3: whatever Parse tells of any bytes, each relocation's bytes may be cut out of its section; and it refuses no table of which all can be.
func TestNotBeyond(t *testing.T) {
	rnd := rand.New(rand.NewSource(33))
	all := types()
	told := 0
	for range 60000 {
		section := make([]byte, rnd.Intn(20))
		want := make([]api.Rela, 1+rnd.Intn(3))
		fit := true
		for i := range want {
			want[i] = api.Rela{Off: uint64(rnd.Intn(24)), Type: all[rnd.Intn(len(all))]}
			if rnd.Intn(20) == 0 {
				want[i].Off = -want[i].Off
			}
			_, in := cut(section, want[i])
			fit = fit && in
		}
		l, e := Parse(table(want...), uint64(len(section)), 1)
		for _, r := range l {
			part, in := cut(section, r)
			if !in || len(part) != Width(r.Type) {
				t.Fatalf("P13.3: %+v leads beyond %d bytes", r, len(section))
			}
			told++
		}
		if (e == api.OK) != fit {
			t.Fatalf("P13.3: %+v of %d bytes: %v", want, len(section), e)
		}
	}
	if told < 5000 {
		t.Errorf("P13.3: %d relocations were told", told)
	}
}

// cut: the bytes of the section that r touches, counted one by one.
func cut(section []byte, r api.Rela) ([]byte, bool) {
	if r.Off > uint64(len(section)) {
		return nil, false
	}
	rest := section[r.Off:]
	if len(rest) < plainWidth(r.Type) {
		return nil, false
	}
	return rest[:plainWidth(r.Type)], true
}

// TestOwnMemory: P13.1, P13.2: what is handed in is neither changed nor kept, the spare room behind it included; what is answered is new memory.
func TestOwnMemory(t *testing.T) {
	want := []api.Rela{{Off: 4, Type: api.RCall, Sym: 2, Add: -4}, {Off: 12, Type: api.RRelax, Add: 9}}
	b := append(table(want...), "spare"...)
	old := bytes.Clone(b)
	l, e := Parse(b[:48], 12, 3)
	if !bytes.Equal(b, old) || e != api.OK {
		t.Errorf("P13.2: what was handed in was changed, or is wrong: %x, %v", b, e)
	}
	clear(b)
	if !slices.Equal(l, want) {
		t.Errorf("P13.2: what was handed in was kept: %+v", l)
	}
	copy(b, old)
	clear(l[:cap(l)])
	must(t, "again", b[:48], 12, 3, true)

	list := append(slices.Clone(want), api.Rela{Off: 9})
	first := Bytes(list[:2]...)
	clear(first[:cap(first)])
	if !slices.Equal(list, append(slices.Clone(want), api.Rela{Off: 9})) {
		t.Errorf("P13.1: Bytes changed its list: %+v", list)
	}
	if second := Bytes(list[:2]...); !bytes.Equal(second, table(want...)) {
		t.Errorf("P13.1: Bytes again: %x", second)
	}
}
