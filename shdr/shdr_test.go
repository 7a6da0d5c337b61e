package shdr

import (
	"bytes"
	"encoding/binary"
	"math"
	"math/rand"
	"slices"
	"strings"
	"testing"

	"dovetail/api"
	"dovetail/head"
)

// plainHeader: a header written out field by field, as the chapter has it.
func plainHeader(s api.Shdr) []byte {
	le := binary.LittleEndian
	b := le.AppendUint32(nil, s.Name)
	b = le.AppendUint32(b, s.Type)
	for _, v := range []uint64{s.Flags, s.Addr, s.Off, s.Size} {
		b = le.AppendUint64(b, v)
	}
	b = le.AppendUint32(b, s.Link)
	b = le.AppendUint32(b, s.Info)
	b = le.AppendUint64(b, s.Align)
	return le.AppendUint64(b, s.Ent)
}

// plainRead: the header of 64 bytes, each field read by itself.
func plainRead(b []byte) api.Shdr {
	le := binary.LittleEndian
	return api.Shdr{Name: le.Uint32(b), Type: le.Uint32(b[4:]), Flags: le.Uint64(b[8:]), Addr: le.Uint64(b[16:]), Off: le.Uint64(b[24:]), Size: le.Uint64(b[32:]),
		Link: le.Uint32(b[40:]), Info: le.Uint32(b[44:]), Align: le.Uint64(b[48:]), Ent: le.Uint64(b[56:])}
}

// plainRight: the chapter's words about a header that isn't the first, one by one.
func plainRight(s api.Shdr, size int) bool {
	if !slices.Contains([]uint32{1, 2, 3, 4, 8, 17}, s.Type) || s.Addr != 0 {
		return false
	}
	if !slices.Contains([]uint64{0, 1, 2, 4, 8, 16, 32, 64, 128, 256, 512, 1024, 2048, 4096}, s.Align) {
		return false
	}
	for _, flag := range []uint64{1, 2, 4, 0x10, 0x20, 0x40, 0x200} {
		s.Flags &^= flag
	}
	if s.Type == 8 {
		return s.Flags == 0 && s.Size <= 1<<26
	}
	return s.Flags == 0 && s.Off <= uint64(size) && s.Size <= uint64(size) && s.Off+s.Size <= uint64(size)
}

// plainParse: the chapter's words about all headers, one by one.
func plainParse(b []byte, h api.Head) ([]api.Shdr, []string, bool) {
	if h.Shnum < 1 || h.Shoff > uint64(len(b)) || (len(b)-int(h.Shoff))/64 < h.Shnum {
		return nil, nil, false
	}
	var l []api.Shdr
	for i := range h.Shnum {
		raw := b[int(h.Shoff)+64*i:][:64]
		if i == 0 && !bytes.Equal(raw, make([]byte, 64)) || i > 0 && !plainRight(plainRead(raw), len(b)) {
			return nil, nil, false
		}
		l = append(l, plainRead(raw))
	}
	if h.Shstrndx < 1 || h.Shstrndx >= h.Shnum || l[h.Shstrndx].Type != 3 {
		return nil, nil, false
	}
	tab := b[l[h.Shstrndx].Off:][:l[h.Shstrndx].Size]
	var names []string
	for _, s := range l {
		if int(s.Name) >= len(tab) {
			return nil, nil, false
		}
		name, _, ends := strings.Cut(string(tab[s.Name:]), "\x00")
		if !ends || len(name) > 200 {
			return nil, nil, false
		}
		names = append(names, name)
	}
	return l, names, true
}

// checked: whether Parse answers as plainParse does, and whether it is no error.
func checked(t *testing.T, what string, b []byte, h api.Head) bool {
	t.Helper()
	l, names, good := plainParse(b, h)
	e := api.ErrSect
	if good {
		e = api.OK
	}
	gotL, gotNames, err := Parse(b, h)
	if !slices.Equal(gotL, l) || !slices.Equal(gotNames, names) || err != e {
		t.Fatalf("P11.2: %s: %+v in %d bytes: %+v, %.40q, %v, wanted %+v, %.40q, %v", what, h, len(b), gotL, gotNames, err, l, names, e)
	}
	return good
}

// must: that Parse is good, or isn't, as the test has it written down.
func must(t *testing.T, what string, b []byte, h api.Head, want bool) {
	t.Helper()
	if checked(t, what, b, h) != want {
		t.Errorf("P11.2: %s: good is %v", what, !want)
	}
}

// usual: the table of names that files of these tests have.
const usual = "\x00.text\x00.names\x00"

// file: 64 bytes for a head, a table of names, and l at the next multiple of 8.
func file(tab string, l ...api.Shdr) ([]byte, api.Head) {
	b := append(bytes.Repeat([]byte{0xa5}, 64), tab...)
	b = append(b, make([]byte, -len(b)&7)...)
	h := api.Head{Shoff: uint64(len(b)), Shnum: len(l), Shstrndx: 1}
	for _, s := range l {
		b = append(b, plainHeader(s)...)
	}
	return b, h
}

// table: the header of the table of names that file lays.
func table(tab string) api.Shdr {
	return api.Shdr{Type: api.ShtStrtab, Off: 64, Size: uint64(len(tab))}
}

// text: a section such as any object has.
func text() api.Shdr {
	return api.Shdr{Name: 1, Type: api.ShtProgbits, Flags: api.ShfAlloc | api.ShfExec, Off: 64, Size: 5, Align: 4}
}

// among: s between others that are right, s last, and both.
func among(t *testing.T, what string, s api.Shdr, want bool) {
	t.Helper()
	for _, l := range [][]api.Shdr{
		{{}, table(usual), s},
		{{}, table(usual), s, text()},
		{{}, table(usual), text(), text(), s, text(), s},
	} {
		b, h := file(usual, l...)
		must(t, what, b, h, want)
	}
}

// TestBytes: P11.1: headers as bytes, none, one and several, right ones and any others.
func TestBytes(t *testing.T) {
	great := api.Shdr{Name: math.MaxUint32, Type: math.MaxUint32, Flags: math.MaxUint64, Addr: math.MaxUint64, Off: math.MaxUint64, Size: math.MaxUint64,
		Link: math.MaxUint32, Info: math.MaxUint32, Align: math.MaxUint64, Ent: math.MaxUint64}
	each := api.Shdr{Name: 0x04030201, Type: 0x08070605, Flags: 0x100f0e0d0c0b0a09, Addr: 0x1817161514131211, Off: 0x201f1e1d1c1b1a19, Size: 0x2827262524232221,
		Link: 0x2c2b2a29, Info: 0x302f2e2d, Align: 0x3837363534333231, Ent: 0x403f3e3d3c3b3a39}
	count := make([]byte, 64)
	for i := range count {
		count[i] = byte(i + 1)
	}
	none, ones := make([]byte, 64), bytes.Repeat([]byte{0xff}, 64)
	for _, c := range []struct {
		l    []api.Shdr
		want []byte
	}{
		{nil, nil},
		{[]api.Shdr{}, nil},
		{[]api.Shdr{{}}, none},
		{[]api.Shdr{each}, count},
		{[]api.Shdr{great}, ones},
		{[]api.Shdr{each, {}, great, each}, slices.Concat(count, none, ones, count)},
		{[]api.Shdr{{Type: 1}}, append([]byte{0, 0, 0, 0, 1}, make([]byte, 59)...)},
		{[]api.Shdr{{Info: 1}}, append(append(make([]byte, 44), 1), make([]byte, 19)...)},
	} {
		if got := Bytes(c.l...); !bytes.Equal(got, c.want) {
			t.Errorf("P11.1: Bytes(%+v): %x, wanted %x", c.l, got, c.want)
		}
	}
}

// TestData: P11.1: of each type, at each place; ShtNobits and ShtNull have none, wherever they are; of any other one it is Off, Size that count.
func TestData(t *testing.T) {
	whole := []byte("0123456789spare")
	b := whole[:10]
	far := []uint64{1 << 20, 1 << 31, 1 << 32, 1 << 63, math.MaxUint64 - 9, math.MaxUint64 - 1, math.MaxUint64}
	places := append([]uint64{0, 1, 2, 5, 8, 9, 10, 11, 12, 15}, far...)
	for _, kind := range []uint32{0, 1, 2, 3, 4, 5, 7, 8, 9, 16, 17, 18, 99, 0x100, 0x108, 0x70000003, math.MaxUint32} {
		for _, off := range places {
			for _, size := range places {
				want, good := []byte(nil), true
				if kind != 0 && kind != 8 {
					good = off <= 10 && size <= 10 && off+size <= 10
				}
				if good && kind != 0 && kind != 8 {
					want = b[off : off+size]
				}
				s := api.Shdr{Name: 9, Type: kind, Flags: 8, Addr: 7, Off: off, Size: size, Link: 6, Info: 5, Align: 3, Ent: 4}
				if got, ok := Data(b, s); !bytes.Equal(got, want) || ok != good {
					t.Errorf("P11.1: Data of type %d, %d bytes at %d: %q, %v", kind, size, off, got, ok)
				}
			}
		}
	}
	if got, ok := Data(nil, api.Shdr{Type: 1}); len(got) != 0 || !ok {
		t.Errorf("P11.1: no Data of no bytes: %q, %v", got, ok)
	}
	if got, ok := Data(nil, api.Shdr{Type: 1, Size: 1}); len(got) != 0 || ok {
		t.Errorf("P11.1: Data of no bytes: %q, %v", got, ok)
	}
}

// TestParse: P11.2: an ordinary file: its headers with all their fields, and their names.
func TestParse(t *testing.T) {
	const tab = "\x00.text\x00.rela.text\x00.bss\x00x\x00"
	want := []api.Shdr{
		{},
		{Name: 6, Type: api.ShtStrtab, Off: 64, Size: uint64(len(tab))},
		{Name: 1, Type: api.ShtProgbits, Flags: 0x277, Off: 10, Size: 20, Link: 9, Info: 8, Align: 4096, Ent: 77},
		{Name: 7, Type: api.ShtRela, Flags: api.ShfInfo, Off: 0, Size: 48, Link: math.MaxUint32, Info: math.MaxUint32, Align: 8, Ent: math.MaxUint64},
		{Name: 12, Type: api.ShtProgbits},
		{Name: 18, Type: api.ShtNobits, Flags: api.ShfWrite | api.ShfAlloc, Off: math.MaxUint64, Size: api.MaxZero, Align: 1},
		{Name: 23, Type: api.ShtSymtab, Align: 8, Ent: 24},
		{Name: 0, Type: api.ShtGroup, Align: 4, Ent: 4},
	}
	b, h := file(tab, want...)
	l, got, e := Parse(b, h)
	if !slices.Equal(l, want) || !slices.Equal(got, []string{"", "", ".text", ".rela.text", ".text", ".bss", "x", ""}) || e != api.OK {
		t.Errorf("P11.2: %+v, %q, %v", l, got, e)
	}
	checked(t, "an ordinary file", b, h)
}

// TestParseFirst: P11.2: number 0 is all noughts: no bit of it is another.
func TestParseFirst(t *testing.T) {
	b, h := file(usual, api.Shdr{}, table(usual), text())
	must(t, "as it is", b, h, true)
	for i := range 64 {
		for bit := range 8 {
			bad := bytes.Clone(b)
			bad[int(h.Shoff)+i] = 1 << bit
			must(t, "a bit of the first", bad, h, false)
		}
	}
	// The same header is right as another one.
	b, h = file(usual, table(usual), table(usual))
	must(t, "a table first", b, h, false)
	b, h = file(usual, api.Shdr{}, api.Shdr{}, table(usual))
	h.Shstrndx = 2
	must(t, "noughts once more", b, h, false)
	b, h = file(usual, api.Shdr{})
	must(t, "the first alone", b, h, false)
	h.Shstrndx = 0
	must(t, "the first alone, as a table", b, h, false)
}

// TestParseType: P11.2: the types of package api but ShtNull, no others.
func TestParseType(t *testing.T) {
	good := map[uint32]bool{1: true, 2: true, 3: true, 4: true, 8: true, 17: true}
	try := func(kind uint32) {
		s := text()
		s.Type = kind
		among(t, "a type", s, good[kind])
	}
	for kind := range uint32(600) {
		try(kind)
	}
	for kind := range good {
		for bit := range 32 {
			try(kind ^ 1<<bit)
		}
	}
	for _, kind := range []uint32{0x6ffffff5, 0x70000003, 0x80000000, math.MaxUint32} {
		try(kind)
	}
}

// TestParseFlags: P11.2: each set of the flags of package api, no others.
func TestParseFlags(t *testing.T) {
	try := func(flags uint64) {
		s := text()
		s.Flags = flags
		among(t, "flags", s, flags|0x277 == 0x277)
	}
	for flags := range uint64(2048) {
		try(flags)
	}
	for bit := range 64 {
		try(1 << bit)
		try(1<<bit | 0x277)
		try(math.MaxUint64 << bit)
	}
}

// TestParseAddr: P11.2: Addr is 0.
func TestParseAddr(t *testing.T) {
	for bit := range 64 {
		s := text()
		s.Addr = 1 << bit
		among(t, "an address", s, false)
		s.Type = api.ShtNobits
		among(t, "an address of zeros", s, false)
	}
}

// TestParseAlign: P11.2: 0, or a power of two up to Page.
func TestParseAlign(t *testing.T) {
	try := func(align uint64) {
		s := text()
		s.Align = align
		among(t, "an alignment", s, align == 0 || align <= 4096 && 4096%align == 0)
	}
	for align := range uint64(8200) {
		try(align)
	}
	for bit := range 64 {
		try(1 << bit)
		try(1<<bit - 1)
		try(1<<bit + 1)
		try(math.MaxUint64 << bit)
	}
}

// TestParseFree: P11.2: Link, Info, Ent are any.
func TestParseFree(t *testing.T) {
	for _, v := range []uint64{0, 1, 2, 3, 99, 1 << 31, 1<<32 - 1, 1 << 63, math.MaxUint64} {
		s := text()
		s.Link, s.Info, s.Ent = uint32(v), ^uint32(v), v
		among(t, "Link, Info, Ent", s, true)
	}
}

// TestParseWithin: P11.2, P11.3: each type's data at the file's end and past it, and where a sum would wrap.
func TestParseWithin(t *testing.T) {
	b, h := file(usual, api.Shdr{}, table(usual), text())
	size := uint64(len(b))
	at := int(h.Shoff) + 128
	near := []uint64{0, 1, 63, 64, size / 2, size - 64, size - 2, size - 1, size, size + 1, size + 2, size + 64, 2 * size}
	far := []uint64{1 << 20, 1 << 31, 1 << 32, 1<<32 + 1, 1 << 63, 1<<63 + 1}
	for _, x := range near {
		far = append(far, -x, 1<<63-x, 1<<32+x)
	}
	places := append(near, far...)
	for _, kind := range []uint32{1, 2, 3, 4, 8, 17} {
		for _, off := range places {
			for _, n := range places {
				s := api.Shdr{Name: 1, Type: kind, Off: off, Size: n}
				copy(b[at:], plainHeader(s))
				checked(t, "data near the file's end", b, h)
			}
		}
	}
	for _, c := range []struct {
		off, size uint64
		want      bool
	}{
		{0, size, true}, {0, size + 1, false}, {1, size, false}, {size, 0, true}, {size + 1, 0, false}, {size - 1, 1, true}, {size - 1, 2, false},
		{0, math.MaxUint64, false}, {1, math.MaxUint64, false}, {math.MaxUint64, 1, false}, {math.MaxUint64, 2, false}, {1 << 63, 1 << 63, false},
	} {
		for _, kind := range []uint32{1, 2, 3, 4, 17} {
			copy(b[at:], plainHeader(api.Shdr{Name: 1, Type: kind, Off: c.off, Size: c.size}))
			must(t, "data at the file's end", b, h, c.want)
		}
	}
}

// TestParseSpare: P11.2, P11.3: data and headers in the spare room behind b aren't within it.
func TestParseSpare(t *testing.T) {
	s := text()
	s.Off = 64
	b, h := file(usual, api.Shdr{}, table(usual), s)
	for n := range len(b) {
		must(t, "a file cut short", b[:n], h, false)
	}
	s.Off, s.Size = uint64(len(b))-3, 4
	b, h = file(usual, api.Shdr{}, table(usual), s)
	must(t, "data in the spare room", append(b, 1, 2, 3, 4)[:len(b)], h, false)
	must(t, "the same within", append(b, 1, 2, 3, 4), h, true)
	must(t, "no file", nil, h, false)
	must(t, "no file, no head", nil, api.Head{}, false)
}

// TestParseZeros: P11.2: of ShtNobits any Off, and a Size up to MaxZero; of others the file's end bounds it.
func TestParseZeros(t *testing.T) {
	for _, off := range []uint64{0, 64, 1 << 20, 1 << 63, math.MaxUint64} {
		for size, want := range map[uint64]bool{0: true, 1: true, 1 << 20: true, 1<<26 - 1: true, 1 << 26: true, 1<<26 + 1: false, 1 << 27: false, 1 << 32: false, 1<<32 + 5: false, 1 << 63: false, math.MaxUint64: false} {
			s := api.Shdr{Name: 1, Type: api.ShtNobits, Off: off, Size: size}
			among(t, "zeros", s, want)
			s.Type = api.ShtProgbits
			among(t, "the same as data", s, off <= 64 && size <= 1)
		}
	}
	// Each by itself may be so great; what they are together is not this layer's.
	most := api.Shdr{Name: 1, Type: api.ShtNobits, Size: api.MaxZero}
	b, h := file(usual, api.Shdr{}, table(usual), most, most, most)
	must(t, "zeros together", b, h, true)
}

// TestParseTable: P11.2: the table of names is one of the headers, a ShtStrtab, not number 0.
func TestParseTable(t *testing.T) {
	other := text()
	other.Off, other.Size = 64, uint64(len(usual))
	for _, kind := range []uint32{1, 2, 3, 4, 8, 17} {
		other.Type = kind
		b, h := file(usual, api.Shdr{}, table(usual), other, text(), table(usual))
		for at := -3; at < 9; at++ {
			h.Shstrndx = at
			must(t, "a table of names", b, h, at == 1 || at == 4 || at == 2 && kind == 3)
		}
		for _, at := range []int{256 + 1, 1<<16 + 1, 1<<32 + 1, -1<<32 + 1, math.MaxInt, math.MinInt, math.MinInt + 1} {
			h.Shstrndx = at
			must(t, "a table of names far off", b, h, false)
		}
	}
}

// TestParseWhichTable: P11.2: the names are of number Shstrndx, not of another table; of its bytes alone, whatever stands behind them.
func TestParseWhichTable(t *testing.T) {
	const tab = "\x00one\x00\x00two\x00"
	first, second := api.Shdr{Name: 1, Type: api.ShtStrtab, Off: 64, Size: 5}, api.Shdr{Name: 1, Type: api.ShtStrtab, Off: 69, Size: 5}
	b, h := file(tab, api.Shdr{}, first, second)
	for at, want := range map[int]string{1: "one", 2: "two"} {
		h.Shstrndx = at
		if _, got, e := Parse(b, h); !slices.Equal(got, []string{"", want, want}) || e != api.OK {
			t.Errorf("P11.2: names of table %d: %q, %v", at, got, e)
		}
	}
	h.Shstrndx = 1
	for size := range uint64(12) {
		first.Size = size
		b, h = file(tab, api.Shdr{}, first, second)
		must(t, "a table cut short", b, h, size >= 5)
	}
}

// TestParseNames: P11.2: each Name is a name of the table: within it, with a nought behind it, of at most MaxName bytes.
func TestParseNames(t *testing.T) {
	for off := range uint32(len(usual) + 3) {
		s := text()
		s.Name = off
		among(t, "a name", s, int(off) < len(usual))
	}
	for _, off := range []uint32{256 + 1, 1<<16 + 1, 1 << 31, 1<<31 + 1, math.MaxUint32 - 1, math.MaxUint32} {
		s := text()
		s.Name = off
		among(t, "a name far off", s, false)
	}
	for n, want := range map[int]bool{0: true, 1: true, 199: true, 200: true, 201: false, 255: false, 256: false, 1000: false} {
		tab := "\x00" + strings.Repeat("n", n) + "\x00"
		s := text()
		s.Name = 1
		b, h := file(tab, api.Shdr{}, table(tab), s, text())
		must(t, "a long name", b, h, want)
		b, h = file(tab[:n+1], api.Shdr{}, table(tab[:n+1]), s)
		must(t, "a name without a nought", b, h, false)
	}
	own := table(usual)
	own.Name = uint32(len(usual))
	b, h := file(usual, api.Shdr{}, own)
	must(t, "the table's own name", b, h, false)
}

// TestParseFirstName: P11.2: the name of number 0 is one of the table's, too: what begins at 0, be it "" or not.
func TestParseFirstName(t *testing.T) {
	long := strings.Repeat("l", api.MaxName)
	for _, c := range []struct{ tab, first string }{{"\x00a\x00", ""}, {"b\x00a\x00", "b"}, {long + "\x00a\x00", long}} {
		own := table(c.tab)
		own.Name = uint32(len(c.tab) - 2)
		b, h := file(c.tab, api.Shdr{}, own)
		if _, got, e := Parse(b, h); !slices.Equal(got, []string{c.first, "a"}) || e != api.OK {
			t.Errorf("P11.2: names of %q: %q, %v", c.tab, got, e)
		}
	}
	tab := "l" + long + "\x00a\x00"
	own := table(tab)
	own.Name = uint32(len(tab) - 2)
	b, h := file(tab, api.Shdr{}, own)
	must(t, "a first name that is too long", b, h, false)
}

// TestParseHead: P11.2: headers that aren't within b, be it that a product or a sum wraps; none at all.
func TestParseHead(t *testing.T) {
	b, h := file(usual, api.Shdr{}, table(usual), text())
	size := uint64(len(b))
	for _, off := range []uint64{0, 1, 8, 64, h.Shoff - 1, h.Shoff, h.Shoff + 1, h.Shoff + 64, size - 64, size - 1, size, size + 1, 1 << 32, 1<<32 + h.Shoff, 1 << 63, 1<<63 + h.Shoff, 1<<64 - 64, 1<<64 - 192, 1<<64 - 1, -h.Shoff} {
		for _, n := range []int{0, 1, 2, 3, 4, 5, 400, 401, 65535, 1 << 26, 1 << 31, 1 << 32, 1<<32 + 3, 1 << 57, 1<<57 + 3, 1 << 58, 1<<58 + 3, 1<<59 + 3, 1<<62 + 3, math.MaxInt, -1, -2, -3, -64, math.MinInt, math.MinInt + 3} {
			for _, at := range []int{0, 1, 2} {
				x := api.Head{Shoff: off, Shnum: n, Shstrndx: at}
				must(t, "a head", b, x, off == h.Shoff && (n == 2 || n == 3) && at == 1)
			}
		}
	}
}

// TestParseWrap: P11.2: headers from shortly below 2^64 on aren't within b, though all but the first would be right if their places wrapped.
func TestParseWrap(t *testing.T) {
	own := api.Shdr{Type: api.ShtStrtab, Off: 64, Size: 64}
	other := api.Shdr{Type: api.ShtProgbits, Size: 9}
	b := slices.Concat(plainHeader(own), make([]byte, 64), plainHeader(own), plainHeader(other))
	must(t, "the same headers within", b, api.Head{Shoff: 64, Shnum: 3, Shstrndx: 1}, true)
	for n := range 6 {
		must(t, "headers that wrap", b, api.Head{Shoff: 1<<64 - 64, Shnum: n, Shstrndx: 1}, false)
		must(t, "headers that wrap", b, api.Head{Shoff: 1<<64 - 128, Shnum: n, Shstrndx: 2}, false)
	}
}

// TestParseAnyPlace: P11.2: the headers stand wherever the head says, at no multiple of 8, ahead of all data, behind it, or last in a great file.
func TestParseAnyPlace(t *testing.T) {
	for off := range 40 {
		b := make([]byte, off, off+192)
		own := api.Shdr{Name: 0, Type: api.ShtStrtab, Off: uint64(off), Size: 64}
		b = append(b, slices.Concat(plainHeader(api.Shdr{}), plainHeader(own), plainHeader(api.Shdr{Type: 1}))...)
		h := api.Head{Shoff: uint64(off), Shnum: 3, Shstrndx: 1}
		must(t, "a place", b, h, true)
		must(t, "a place in a great file", append(b, make([]byte, 1<<20)...), h, true)
		must(t, "a byte short", b[:len(b)-1], h, false)
		h.Shoff++
		must(t, "one further", b, h, false)
	}
}

// TestParseMany: P11.2: so many headers of a great file as a head may have, each of which spans it, and far more; answered in time.
func TestParseMany(t *testing.T) {
	for _, many := range []int{2, 399, 400, 401, 20000} {
		l := make([]api.Shdr, many)
		for i := range l[1:] {
			l[i+1] = text()
		}
		l[1] = table(usual)
		b, h := file(usual, l...)
		b = append(b, make([]byte, max(0, api.MaxFile-len(b)))...)
		for i := range l[2:] {
			copy(b[int(h.Shoff)+64*(i+2):], plainHeader(api.Shdr{Type: 1, Size: uint64(len(b))}))
		}
		must(t, "many headers", b, h, true)
		binary.LittleEndian.PutUint64(b[int(h.Shoff)+64*(many-1)+32:], uint64(len(b)+1))
		must(t, "many headers, the last one wrong", b, h, false)
	}
}

// TestParseEachByte: P11.2: each byte of the headers as each other one.
func TestParseEachByte(t *testing.T) {
	zeros := api.Shdr{Name: 7, Type: api.ShtNobits, Flags: 3, Off: 1, Size: 1 << 20, Align: 64}
	whole, h := file(usual, api.Shdr{}, table(usual), text(), zeros)
	for i := int(h.Shoff); i < len(whole); i++ {
		b := bytes.Clone(whole)
		for x := range 256 {
			b[i] = byte(x)
			checked(t, "one byte", b, h)
		}
	}
}

// anyShdr: a header that is mostly right for a file of size bytes with a table of names of tab bytes.
func anyShdr(rnd *rand.Rand, size, tab int) api.Shdr {
	off := rnd.Intn(size + 1)
	s := api.Shdr{Name: uint32(rnd.Intn(tab)), Type: []uint32{1, 2, 3, 4, 8, 17}[rnd.Intn(6)], Flags: rnd.Uint64() & 0x277, Off: uint64(off), Size: uint64(rnd.Intn(size - off + 1)),
		Link: rnd.Uint32(), Info: rnd.Uint32(), Align: 1 << rnd.Intn(13), Ent: rnd.Uint64()}
	if rnd.Intn(4) == 0 {
		s.Align = 0
	}
	if s.Type == api.ShtNobits {
		s.Off, s.Size = rnd.Uint64(), uint64(rnd.Intn(api.MaxZero+1))
	}
	return s
}

// anyFile: a file of such headers, its table among them at any number.
func anyFile(rnd *rand.Rand) ([]byte, api.Head, []api.Shdr) {
	tab := strings.Repeat("\x00ab\x00c", 1+rnd.Intn(4)) + "\x00"
	l := make([]api.Shdr, 2+rnd.Intn(6))
	b, h := file(tab, l...)
	for i := range l[1:] {
		l[i+1] = anyShdr(rnd, len(b), len(tab))
	}
	h.Shstrndx = 1 + rnd.Intn(len(l)-1)
	l[h.Shstrndx] = table(tab)
	l[h.Shstrndx].Name = uint32(rnd.Intn(len(tab)))
	copy(b[h.Shoff:], Bytes(l...))
	return b, h, l
}

// TestAnyFile: P11.2: any headers, right ones and those with some bits changed, held against the chapter's words one by one.
func TestAnyFile(t *testing.T) {
	rnd := rand.New(rand.NewSource(11))
	good, bad := 0, 0
	for run := range 20000 {
		b, h, _ := anyFile(rnd)
		for range rnd.Intn(3) {
			b[rnd.Intn(len(b))] ^= 1 << rnd.Intn(8)
		}
		switch run % 16 {
		case 0:
			rnd.Read(b[rnd.Intn(len(b)):])
		case 1:
			h.Shoff += uint64(rnd.Intn(129)) - 64
		case 2:
			h.Shnum += rnd.Intn(3) - 1
		case 3:
			h.Shstrndx += rnd.Intn(5) - 2
		}
		if checked(t, "any file", b, h) {
			good++
		} else {
			bad++
		}
	}
	if good < 2000 || bad < 2000 {
		t.Errorf("P11.2: %d files were right, %d wrong", good, bad)
	}
}

// TestBackAgain: P11.1, P11.2: headers are read from their bytes as they were.
func TestBackAgain(t *testing.T) {
	rnd := rand.New(rand.NewSource(12))
	for range 3000 {
		b, h, want := anyFile(rnd)
		l, _, e := Parse(b, h)
		if !slices.Equal(l, want) || e != api.OK {
			t.Fatalf("P11.2: %+v: %+v, %v", want, l, e)
		}
		if again := Bytes(l...); !bytes.Equal(again, b[h.Shoff:]) {
			t.Fatalf("P11.1: %+v: %x", want, again)
		}
	}
}

// TestNothingBeyond: P11.3: of whatever headers Parse tells, each section's data lie within the file, as many bytes as Size says.
func TestNothingBeyond(t *testing.T) {
	rnd := rand.New(rand.NewSource(13))
	told := 0
	for range 20000 {
		b, h, _ := anyFile(rnd)
		at := int(h.Shoff) + 64*(1+rnd.Intn(h.Shnum-1)) + 24
		b[at+rnd.Intn(16)] = byte(rnd.Intn(256))
		l, _, e := Parse(b, h)
		if e != api.OK {
			continue
		}
		told++
		for _, s := range l {
			d, ok := Data(b, s)
			switch {
			case s.Type == api.ShtNull || s.Type == api.ShtNobits:
				if len(d) != 0 || !ok || s.Size > api.MaxZero {
					t.Fatalf("P11.3: %+v: %d bytes, %v", s, len(d), ok)
				}
			case !ok || uint64(len(d)) != s.Size || s.Off > uint64(len(b)) || !bytes.Equal(d, b[s.Off:s.Off+s.Size]):
				t.Fatalf("P11.3: %+v in %d bytes: %d bytes, %v", s, len(b), len(d), ok)
			}
		}
	}
	if told < 1000 {
		t.Errorf("P11.3: only %d files were right ones", told)
	}
}

// TestWithHead: P11.2: the head that head.Parse tells of a whole file leads to its headers.
func TestWithHead(t *testing.T) {
	want := []api.Shdr{{}, table(usual), text()}
	b, h := file(usual, want...)
	copy(b, head.Bytes(h))
	got, e := head.Parse(b)
	if got != h || e != api.OK {
		t.Fatalf("P11.2: the head: %+v, %v", got, e)
	}
	if l, tell, e := Parse(b, got); !slices.Equal(l, want) || !slices.Equal(tell, []string{"", "", ".text"}) || e != api.OK {
		t.Errorf("P11.2: %+v, %q, %v", l, tell, e)
	}
}

// TestBytesMany: P11.1: so many headers that each is put down at once, or this doesn't end in time.
func TestBytesMany(t *testing.T) {
	l := make([]api.Shdr, 200000)
	for i := range l {
		l[i] = api.Shdr{Name: uint32(i), Ent: ^uint64(i)}
	}
	b := Bytes(l...)
	if len(b) != 64*len(l) {
		t.Fatalf("P11.1: %d bytes", len(b))
	}
	for i := range l {
		if plainRead(b[64*i:]) != l[i] {
			t.Fatalf("P11.1: number %d of many: %x", i, b[64*i:][:64])
		}
	}
}

// TestOwnMemory: P11.1, P11.2: what is handed in is neither changed nor kept, the spare room behind it included; what is answered is new memory.
func TestOwnMemory(t *testing.T) {
	want := []api.Shdr{{}, table(usual), text()}
	b, h := file(usual, want...)
	whole := append(b, "spare room"...)
	before := bytes.Clone(whole)
	b = whole[:len(b):len(whole)]
	l, tell, _ := Parse(b, h)
	d, _ := Data(b, text())
	empty, _ := Data(b, api.Shdr{Type: 1, Off: 64})
	_ = append(empty, 'x')
	if !bytes.Equal(whole, before) {
		t.Error("P11.2: the file was changed")
	}
	clear(whole)
	if !slices.Equal(l, want) || !slices.Equal(tell, []string{"", "", ".text"}) || string(d) != usual[:5] {
		t.Errorf("P11.2: the file was kept: %+v, %q, %q", l, tell, d)
	}
	copy(whole, before)
	clear(l[:cap(l)])
	clear(tell[:cap(tell)])
	clear(d[:cap(d)])
	checked(t, "again", b, h)
	if !bytes.Equal(whole, before) {
		t.Error("P11.1: Data isn't a copy")
	}
	list := []api.Shdr{text(), table(usual), {Ent: 9}}
	first := Bytes(list[:2]...)
	clear(first[:cap(first)])
	if !slices.Equal(list, []api.Shdr{text(), table(usual), {Ent: 9}}) {
		t.Errorf("P11.1: Bytes changed its list: %+v", list)
	}
	if second := Bytes(list[:2]...); !bytes.Equal(second, slices.Concat(plainHeader(text()), plainHeader(table(usual)))) {
		t.Errorf("P11.1: Bytes again: %x", second)
	}
}
