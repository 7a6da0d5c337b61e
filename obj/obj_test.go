package obj

import (
	"bytes"
	"fmt"
	"math"
	"math/rand"
	"slices"
	"strings"
	"testing"

	"dovetail/api"
	"dovetail/group"
	"dovetail/head"
	"dovetail/rela"
	"dovetail/shdr"
	"dovetail/strtab"
	"dovetail/symtab"
)

// part: a section of a file that is to be: its name, its header, its bytes.
type part struct {
	name string
	h    api.Shdr
	b    []byte
}

// fileOf: a file of these sections from number 1 on; the first one is put to them, and behind them, if it isn't among them, the table of their names.
func fileOf(l ...part) []byte {
	at := slices.IndexFunc(l, func(p part) bool { return p.name == ".shstrtab" })
	l = slices.Clone(l)
	if at < 0 {
		at = len(l)
		l = append(l, part{name: ".shstrtab"})
	}
	var names []string
	for _, p := range l {
		names = append(names, p.name)
	}
	tab, name := strtab.Build(names...)
	l[at].h.Type, l[at].b = api.ShtStrtab, tab
	b := make([]byte, 64)
	heads := []api.Shdr{{}}
	for i, p := range l {
		p.h.Name = name[i]
		p.h.Off = uint64(len(b))
		if p.h.Type != api.ShtNobits {
			p.h.Size = uint64(len(p.b))
		}
		b = append(b, p.b...)
		heads = append(heads, p.h)
	}
	b = append(b, make([]byte, -len(b)&7)...)
	copy(b, head.Bytes(api.Head{Shoff: uint64(len(b)), Shnum: len(heads), Shstrndx: at + 1}))
	return append(b, shdr.Bytes(heads...)...)
}

// Numbers of the sections of usual.
const (
	text = iota + 1
	bss
	symbols
	symNames
	relaText
	groupF
	data
	relaData
	usualSects
)

// symbolNames: "here" at 1, "f" at 6, "x" at 8, "file.c" at 10, "common" at 17.
const symbolNames = "\x00here\x00f\x00x\x00file.c\x00common\x00"

// usualSyms: a symbol of each kind.
func usualSyms() []api.Raw {
	return []api.Raw{
		{},
		{Name: 10, Type: api.SymFile, Sect: api.Abs},
		{Type: api.SymSection, Sect: text},
		{Name: 1, Type: api.SymObject, Other: 2, Sect: bss, Value: 100, Size: 4},
		{Name: 6, Bind: api.BindGlobal, Type: api.SymFunc, Sect: text, Value: 8, Size: 8},
		{Name: 8, Bind: api.BindWeak},
		{Name: 17, Bind: api.BindGlobal, Type: api.SymObject, Sect: api.Common, Value: 16, Size: 40},
		{Name: 8, Bind: api.BindGlobal, Sect: data, Value: 12},
		{Name: 13, Bind: api.BindGlobal, Sect: api.Abs, Value: math.MaxUint64},
	}
}

// usual: sections of every type: a group of .text and its relocations, and a section of data that is in none.
func usual() []part {
	return []part{
		{".text", api.Shdr{Type: api.ShtProgbits, Flags: api.ShfAlloc | api.ShfExec | api.ShfGroup, Align: 4}, []byte("0123456789abcdef")},
		{".bss", api.Shdr{Type: api.ShtNobits, Flags: api.ShfAlloc | api.ShfWrite, Size: 100}, nil},
		{".symtab", api.Shdr{Type: api.ShtSymtab, Link: symNames, Info: 4, Ent: 24}, symtab.Bytes(usualSyms()...)},
		{".strtab", api.Shdr{Type: api.ShtStrtab}, []byte(symbolNames)},
		{".rela.text", api.Shdr{Type: api.ShtRela, Flags: api.ShfInfo | api.ShfGroup, Link: symbols, Info: text, Ent: 24},
			rela.Bytes(api.Rela{Off: 8, Type: api.RCall, Sym: 5, Add: -1}, api.Rela{Off: 16, Type: api.RRelax}, api.Rela{Type: 99, Sym: 8, Add: math.MaxInt64})},
		{".group", api.Shdr{Type: api.ShtGroup, Link: symbols, Info: 4, Ent: 4}, group.Bytes(text, relaText)},
		{".data", api.Shdr{Type: api.ShtProgbits, Flags: api.ShfWrite | api.ShfAlloc | api.ShfMerge | api.ShfStrings, Align: 4096}, []byte("some data...")},
		{"any name", api.Shdr{Type: api.ShtRela, Link: symbols, Info: data, Ent: 24}, rela.Bytes(api.Rela{Off: 4, Type: api.R64, Sym: 3})},
	}
}

// usualObject: what usual is read as.
func usualObject() api.Object {
	return api.Object{
		Sects: []api.Sect{
			{Name: ".text", Flags: 6, Align: 4, Size: 16, Data: []byte("0123456789abcdef"), Rels: []api.Rela{{Off: 8, Type: 18, Sym: 5, Add: -1}, {Off: 16, Type: 51}, {Type: 99, Sym: 8, Add: math.MaxInt64}}},
			{Name: ".bss", Zero: true, Flags: 3, Align: 1, Size: 100},
			{Name: ".data", Flags: 0x33, Align: 4096, Size: 12, Data: []byte("some data..."), Rels: []api.Rela{{Off: 4, Type: 2, Sym: 3}}},
		},
		Syms: []api.Sym{
			{},
			{Name: "file.c", Type: 4, Sect: 0xfff1},
			{Type: 3, Sect: 1},
			{Name: "here", Type: 1, Sect: 2, Value: 100, Size: 4},
			{Name: "f", Bind: 1, Type: 2, Sect: 1, Value: 8, Size: 8},
			{Name: "x", Bind: 2},
			{Name: "common", Bind: 1, Type: 1, Sect: 0xfff2, Value: 16, Size: 40},
			{Name: "x", Bind: 1, Sect: 3, Value: 12},
			{Name: "e.c", Bind: 1, Sect: 0xfff1, Value: math.MaxUint64},
		},
		Groups: []api.Group{{Sig: "f", Members: []int{0}}},
	}
}

// turned: usual, with section number i changed.
func turned(i int, change func(*part)) []byte {
	l := usual()
	change(&l[i-1])
	return fileOf(l...)
}

// copyOf: o in memory of its own.
func copyOf(o api.Object) api.Object {
	c := api.Object{Sects: slices.Clone(o.Sects), Syms: slices.Clone(o.Syms), Groups: slices.Clone(o.Groups)}
	for i := range c.Sects {
		c.Sects[i].Data = slices.Clone(c.Sects[i].Data)
		c.Sects[i].Rels = slices.Clone(c.Sects[i].Rels)
	}
	for i := range c.Groups {
		c.Groups[i].Members = slices.Clone(c.Groups[i].Members)
	}
	return c
}

// same: whether two objects are the same, where no list and an empty one are.
func same(a, b api.Object) bool {
	sect := func(x, y api.Sect) bool {
		return x.Name == y.Name && x.Zero == y.Zero && x.Flags == y.Flags && x.Align == y.Align && x.Size == y.Size && bytes.Equal(x.Data, y.Data) && slices.Equal(x.Rels, y.Rels)
	}
	one := func(x, y api.Group) bool { return x.Sig == y.Sig && slices.Equal(x.Members, y.Members) }
	return slices.EqualFunc(a.Sects, b.Sects, sect) && slices.Equal(a.Syms, b.Syms) && slices.EqualFunc(a.Groups, b.Groups, one)
}

// plainSects: P15.1's words about sections, one by one.
func plainSects(heads []api.Shdr) bool {
	tables, contents, zeros := 0, 0, uint64(0)
	for i, s := range heads {
		to := func(number uint32) uint32 {
			if uint64(number) >= uint64(len(heads)) {
				return math.MaxUint32
			}
			return heads[number].Type
		}
		switch s.Type {
		case api.ShtProgbits:
			contents++
			if s.Flags&4 != 0 && s.Flags&1 != 0 {
				return false
			}
		case api.ShtNobits:
			contents++
			zeros += s.Size
			if s.Flags&4 != 0 {
				return false
			}
		case api.ShtSymtab:
			tables++
			if s.Ent != 24 || to(s.Link) != api.ShtStrtab {
				return false
			}
		case api.ShtRela:
			if s.Ent != 24 || to(s.Link) != api.ShtSymtab || to(s.Info) != api.ShtProgbits {
				return false
			}
			for _, other := range heads[:i] {
				if other.Type == api.ShtRela && other.Info == s.Info {
					return false
				}
			}
		case api.ShtGroup:
			if s.Ent != 4 || to(s.Link) != api.ShtSymtab {
				return false
			}
		}
	}
	return tables <= 1 && contents <= 100 && zeros <= 1<<26
}

// plainSym: P15.1's words about a symbol that isn't the first one; its content's size, if it stands in one.
func plainSym(kind, bind int, sect int, content bool, value, size, room uint64) bool {
	if sect != 0 && sect != 0xfff1 && sect != 0xfff2 && !content {
		return false
	}
	if kind == api.SymSection && !content || kind == api.SymFile && sect != 0xfff1 {
		return false
	}
	if bind == api.BindLocal && (sect == 0 || sect == 0xfff2) {
		return false
	}
	if sect == 0xfff2 {
		right := false
		for a := uint64(1); a <= 4096; a *= 2 {
			right = right || value == a
		}
		if !right || size > 1<<26 {
			return false
		}
	}
	return !content || value <= room
}

// plainRead: the words of P15.1 and P15.2, one by one.
func plainRead(b []byte) (api.Object, api.Errno) {
	h, e := head.Parse(b)
	if e != api.OK {
		return api.Object{}, e
	}
	heads, names, e := shdr.Parse(b, h)
	if e != api.OK {
		return api.Object{}, e
	}
	if !plainSects(heads) {
		return api.Object{}, api.ErrSect
	}
	o := api.Object{Syms: []api.Sym{{}}}
	among := make([]int, len(heads))
	for i, s := range heads {
		among[i] = -1
		if s.Type != api.ShtProgbits && s.Type != api.ShtNobits {
			continue
		}
		among[i] = len(o.Sects)
		c := api.Sect{Name: names[i], Flags: s.Flags & 0x37, Align: s.Align, Size: s.Size}
		if c.Align == 0 {
			c.Align = 1
		}
		if s.Type == api.ShtNobits {
			c.Zero = true
		} else {
			c.Data = bytes.Clone(b[s.Off:][:s.Size])
		}
		o.Sects = append(o.Sects, c)
	}
	for _, s := range heads {
		if s.Type != api.ShtSymtab {
			continue
		}
		tab := heads[s.Link]
		raws, told, e := symtab.Parse(b[s.Off:][:s.Size], b[tab.Off:][:tab.Size], s.Info)
		if e != api.OK {
			return api.Object{}, e
		}
		for i, r := range raws {
			if i == 0 {
				continue
			}
			content := r.Sect < len(heads) && among[r.Sect] >= 0
			room, sect := uint64(0), r.Sect
			if content {
				room, sect = heads[r.Sect].Size, among[r.Sect]+1
			}
			if !plainSym(r.Type, r.Bind, r.Sect, content, r.Value, r.Size, room) {
				return api.Object{}, api.ErrSym
			}
			o.Syms = append(o.Syms, api.Sym{Name: told[i], Bind: r.Bind, Type: r.Type, Sect: sect, Value: r.Value, Size: r.Size})
		}
	}
	all := 0
	for _, s := range heads {
		if s.Type != api.ShtRela {
			continue
		}
		l, e := rela.Parse(b[s.Off:][:s.Size], heads[s.Info].Size, len(o.Syms))
		if e != api.OK {
			return api.Object{}, e
		}
		o.Sects[among[s.Info]].Rels = l
		all += len(l)
	}
	if all > 2000 {
		return api.Object{}, api.ErrRela
	}
	return plainGroups(b, heads, among, o)
}

// plainGroups: the words of P15.1 and P15.2 about groups.
func plainGroups(b []byte, heads []api.Shdr, among []int, o api.Object) (api.Object, api.Errno) {
	in := make([]int, len(heads))
	for _, s := range heads {
		if s.Type != api.ShtGroup {
			continue
		}
		l, e := group.Parse(b[s.Off:][:s.Size], len(heads))
		if e != api.OK {
			return api.Object{}, e
		}
		if int64(s.Info) >= int64(len(o.Syms)) || len(o.Syms[s.Info].Name) == 0 {
			return api.Object{}, api.ErrGroup
		}
		g := api.Group{Sig: o.Syms[s.Info].Name}
		for _, m := range l {
			in[m]++
			if heads[m].Flags&0x200 == 0 || among[m] < 0 && heads[m].Type != api.ShtRela {
				return api.Object{}, api.ErrGroup
			}
			if among[m] >= 0 {
				g.Members = append(g.Members, among[m])
			}
		}
		o.Groups = append(o.Groups, g)
	}
	for i := range heads {
		if in[i] > 1 || among[i] >= 0 && heads[i].Flags&0x200 != 0 && in[i] == 0 {
			return api.Object{}, api.ErrGroup
		}
	}
	return o, api.OK
}

// checked: Read's error, which must be that of the chapter's words, as what it tells must be.
func checked(t *testing.T, what string, b []byte) api.Errno {
	t.Helper()
	want, e := plainRead(b)
	got, err := Read(b)
	if !same(got, want) || err != e {
		t.Fatalf("P15.1, P15.2: %s: %+v, %v, wanted %+v, %v", what, got, err, want, e)
	}
	return e
}

// must: that Read tells the error that the test has written down.
func must(t *testing.T, what string, b []byte, want api.Errno) {
	t.Helper()
	if e := checked(t, what, b); e != want {
		t.Errorf("P15.1: %s: %v, wanted %v", what, e, want)
	}
}

// okOr: OK where that is so, else the error.
func okOr(ok bool, e api.Errno) api.Errno {
	if ok {
		return api.OK
	}
	return e
}

// TestRead: P15.2: a file with sections of every type and symbols of every kind.
func TestRead(t *testing.T) {
	got, e := Read(fileOf(usual()...))
	if !same(got, usualObject()) || e != api.OK {
		t.Errorf("P15.2: %+v, %v", got, e)
	}
	must(t, "usual", fileOf(usual()...), api.OK)
}

// TestReadSmallest: P15.2: a head, a ShtNull, a name table: no sections, the empty symbol alone; the name table may be the head itself.
func TestReadSmallest(t *testing.T) {
	small := append(head.Bytes(api.Head{Shoff: 64, Shnum: 2, Shstrndx: 1}), shdr.Bytes(api.Shdr{}, api.Shdr{Type: api.ShtStrtab, Off: 8, Size: 8})...)
	for _, b := range [][]byte{fileOf(), small} {
		got, e := Read(b)
		if !same(got, api.Object{Syms: []api.Sym{{}}}) || e != api.OK {
			t.Errorf("P15.2: %+v, %v", got, e)
		}
		must(t, "the smallest", b, api.OK)
	}
}

// TestReadNoSymtab: P15.2: sections without symbols: the empty one is there.
func TestReadNoSymtab(t *testing.T) {
	l := usual()
	l[text-1].h.Flags = 0
	b := fileOf(l[text-1], l[bss-1], l[symNames-1], l[data-1])
	got, e := Read(b)
	if len(got.Sects) != 3 || !slices.Equal(got.Syms, []api.Sym{{}}) || len(got.Groups) != 0 || e != api.OK {
		t.Errorf("P15.2: %+v, %v", got, e)
	}
	must(t, "no symbols", b, api.OK)
}

// TestReadBelow: P15.1: the errors of the head and of the headers are handed on.
func TestReadBelow(t *testing.T) {
	b := fileOf(usual()...)
	for n := range len(b) {
		must(t, "cut short", b[:n], api.ErrHead)
	}
	must(t, "no bytes", nil, api.ErrHead)
	must(t, "longer", append(bytes.Clone(b), 0), api.OK)
	must(t, "MaxFile", append(bytes.Clone(b), make([]byte, api.MaxFile-len(b))...), api.OK)
	must(t, "one more", append(bytes.Clone(b), make([]byte, api.MaxFile-len(b)+1)...), api.ErrHead)
	must(t, "an alignment", turned(data, func(p *part) { p.h.Align = 3 }), api.ErrSect)
	must(t, "a type", turned(data, func(p *part) { p.h.Type = 5 }), api.ErrSect)
	must(t, "a name", turned(data, func(p *part) { p.name = strings.Repeat("n", 201) }), api.ErrSect)
	must(t, "a long name", turned(data, func(p *part) { p.name = strings.Repeat("n", 200) }), api.OK)
	must(t, "an archive", []byte("!<arch>\n"), api.ErrHead)
}

// TestReadMany: P15.1: MaxSects contents and one more, be they zeros or not; other sections don't count, up to the 400 headers of a file.
func TestReadMany(t *testing.T) {
	bits, zeros := part{"p", api.Shdr{Type: api.ShtProgbits}, []byte{1}}, part{"z", api.Shdr{Type: api.ShtNobits, Size: 1}, nil}
	other := part{"s", api.Shdr{Type: api.ShtStrtab}, []byte{0}}
	for _, n := range []int{0, 1, 50, 99, 100, 101, 102, 200, 255, 256, 257, 398} {
		want := okOr(n <= 100, api.ErrSect)
		must(t, "many contents", fileOf(slices.Repeat([]part{bits}, n)...), want)
		must(t, "many zeros", fileOf(slices.Repeat([]part{zeros}, n)...), want)
		must(t, "many of both", fileOf(append(slices.Repeat([]part{bits}, n/2), slices.Repeat([]part{zeros}, n-n/2)...)...), want)
		must(t, "many others, too", fileOf(append(slices.Repeat([]part{bits}, n), slices.Repeat([]part{other}, 398-n)...)...), want)
		must(t, "many others ahead", fileOf(append(slices.Repeat([]part{other}, 398-n), slices.Repeat([]part{bits}, n)...)...), want)
	}
	must(t, "too many headers", fileOf(slices.Repeat([]part{other}, 399)...), api.ErrHead)
}

// TestReadZeros: P15.1: contents' zeros together are MaxZero at most; bytes that a file has don't count.
func TestReadZeros(t *testing.T) {
	zero := func(size uint64) part { return part{"z", api.Shdr{Type: api.ShtNobits, Size: size}, nil} }
	for _, c := range []struct {
		sizes []uint64
		want  bool
	}{
		{[]uint64{api.MaxZero}, true},
		{[]uint64{api.MaxZero + 1}, false},
		{[]uint64{api.MaxZero, 0, 0}, true},
		{[]uint64{api.MaxZero, 1}, false},
		{[]uint64{0, 1, api.MaxZero}, false},
		{[]uint64{1, 2, api.MaxZero - 3}, true},
		{[]uint64{1, 2, api.MaxZero - 2}, false},
		{slices.Repeat([]uint64{api.MaxZero / 64}, 64), true},
		{append(slices.Repeat([]uint64{api.MaxZero / 64}, 64), 1), false},
		{slices.Repeat([]uint64{api.MaxZero}, 64), false},
		{slices.Repeat([]uint64{api.MaxZero}, 100), false},
	} {
		l := []part{{"p", api.Shdr{Type: api.ShtProgbits}, make([]byte, 1000)}}
		for _, size := range c.sizes {
			l = append(l, zero(size))
		}
		must(t, "zeros", fileOf(l...), okOr(c.want, api.ErrSect))
	}
}

// TestReadFlags: P15.1, P15.2: contents with each of all flags: what is run is neither written nor zeros; those that speak of the file aren't told.
func TestReadFlags(t *testing.T) {
	l := usual()
	for set := range uint64(0x280) {
		if set&^0x277 != 0 || set&0x200 != 0 {
			continue
		}
		for kind, bad := range map[uint32]uint64{api.ShtProgbits: 5, api.ShtNobits: 4} {
			l[bss-1].h.Type, l[bss-1].h.Flags = kind, set
			if kind == api.ShtProgbits {
				l[bss-1].b = make([]byte, 100)
			}
			b := fileOf(l...)
			must(t, fmt.Sprintf("flags %x of type %d", set, kind), b, okOr(set&bad != bad, api.ErrSect))
			if o, e := Read(b); e == api.OK && o.Sects[1].Flags != set&0x37 {
				t.Errorf("P15.2: flags %x: %x", set, o.Sects[1].Flags)
			}
		}
	}
	// Of sections that are no contents flags aren't asked.
	for _, i := range []int{symbols, symNames, relaText, groupF, relaData} {
		must(t, "flags of no content", turned(i, func(p *part) { p.h.Flags = 0x277 }), api.OK)
	}
}

// TestReadAlign: P15.2: an alignment of 0 is told as 1, each other as it is.
func TestReadAlign(t *testing.T) {
	for _, a := range []uint64{0, 1, 2, 4, 8, 16, 32, 64, 128, 256, 512, 1024, 2048, 4096} {
		for n, i := range []int{text, bss, data} {
			o, e := Read(turned(i, func(p *part) { p.h.Align = a }))
			if e != api.OK || o.Sects[n].Align != max(a, 1) {
				t.Errorf("P15.2: an alignment of %d: %v, %v", a, o.Sects, e)
			}
		}
	}
	must(t, "an alignment of 8192", turned(bss, func(p *part) { p.h.Align = 8192 }), api.ErrSect)
}

// TestReadEnt: P15.1: the size of an item: 24 of symbols and relocations, 4 of groups; of other sections it isn't asked.
func TestReadEnt(t *testing.T) {
	for _, ent := range []uint64{0, 1, 3, 4, 5, 8, 16, 23, 24, 25, 48, 256 + 4, 256 + 24, 1<<32 + 4, 1<<32 + 24, 1<<63 + 24, math.MaxUint64} {
		for i := 1; i < usualSects; i++ {
			want := true
			switch i {
			case symbols, relaText, relaData:
				want = ent == 24
			case groupF:
				want = ent == 4
			}
			must(t, fmt.Sprintf("number %d, Ent %d", i, ent), turned(i, func(p *part) { p.h.Ent = ent }), okOr(want, api.ErrSect))
		}
	}
}

// farOff: numbers of sections that no file has, some of which are right by their lowest bits.
func farOff(right uint32) []uint32 {
	return []uint32{400, 0xff00, api.Abs, api.Common, 0xffff, 256 + right, 1<<16 + right, 1 << 31, 1<<31 + right, math.MaxUint32, -right}
}

// TestReadLink: P15.1: symbols lead to a table of names, relocations and groups to that of symbols; of others Link isn't asked.
func TestReadLink(t *testing.T) {
	numbers := []uint32{0, 1, 2, 3, 4, 5, 6, 7, 8, 9, 10, 11}
	for i := 1; i < usualSects; i++ {
		right := []uint32{symbols}
		if i == symbols {
			right = []uint32{symNames, usualSects}
		}
		for _, to := range append(numbers, farOff(right[0])...) {
			b := turned(i, func(p *part) { p.h.Link = to })
			switch {
			case i == text || i == bss || i == symNames || i == data:
				must(t, "a Link that isn't asked", b, api.OK)
			case i == symbols && to == usualSects:
				// A table of names, but a global symbol has none in it.
				must(t, "symbols' names are sections'", b, api.ErrSym)
			default:
				must(t, fmt.Sprintf("number %d, Link %d", i, to), b, okOr(slices.Contains(right, to), api.ErrSect))
			}
		}
	}
}

// TestReadInfo: P15.1: relocations are of a content that has bytes.
func TestReadInfo(t *testing.T) {
	l := usual()[:relaData-1]
	l[relaText-1].b = nil
	for _, to := range append([]uint32{0, 1, 2, 3, 4, 5, 6, 7, 8}, farOff(text)...) {
		l[relaText-1].h.Info = to
		must(t, fmt.Sprintf("relocations of %d", to), fileOf(l...), okOr(to == text || to == data, api.ErrSect))
	}
}

// TestReadInfoTwice: P15.1: of a content that no relocations ahead have, be these empty or not, wherever they stand.
func TestReadInfoTwice(t *testing.T) {
	for _, to := range []uint32{text, data} {
		for _, n := range []int{0, 24} {
			again := part{".rela", api.Shdr{Type: api.ShtRela, Link: symbols, Info: to, Ent: 24}, make([]byte, n)}
			must(t, "relocations twice", fileOf(append(usual(), again)...), api.ErrSect)
		}
	}
	must(t, "both are of one", turned(relaData, func(p *part) { p.h.Info = text }), api.ErrSect)
	must(t, "both are of one", turned(relaText, func(p *part) { p.h.Info = data }), api.ErrSect)
	l := usual()
	l[relaText-1].h.Info, l[relaData-1].h.Info = data, text
	l[relaText-1].b = nil
	b := fileOf(l...)
	must(t, "the other way round", b, api.OK)
	if o, _ := Read(b); len(o.Sects[0].Rels) != 1 || len(o.Sects[2].Rels) != 0 {
		t.Errorf("P15.2: relocations of the other section: %+v", o.Sects)
	}
}

// TestReadSymtabs: P15.1: one table of symbols at most, and without one no relocations or groups, whatever they lead to.
func TestReadSymtabs(t *testing.T) {
	l := usual()
	must(t, "two tables of symbols", fileOf(append(l, l[symbols-1])...), api.ErrSect)
	must(t, "three tables of symbols", fileOf(append(l, l[symbols-1], l[symbols-1])...), api.ErrSect)
	l = usual()
	l[text-1].h.Flags = 0
	for to := range uint32(7) {
		l[relaText-1].h.Link, l[groupF-1].h.Link = to, to
		must(t, "relocations without symbols", fileOf(l[text-1], l[symNames-1], part{".rela", api.Shdr{Type: api.ShtRela, Link: to, Info: text, Ent: 24}, nil}), api.ErrSect)
		must(t, "a group without symbols", fileOf(l[text-1], l[symNames-1], part{".group", api.Shdr{Type: api.ShtGroup, Link: to, Ent: 4}, group.Bytes()}), api.ErrSect)
	}
}

// TestReadSymtabLast: P15.2: tables may stand ahead of what they lead to.
func TestReadSymtabLast(t *testing.T) {
	l := []part{
		{".group", api.Shdr{Type: api.ShtGroup, Link: 4, Info: 1, Ent: 4}, group.Bytes(2, 3, 5)},
		{".rela", api.Shdr{Type: api.ShtRela, Flags: api.ShfGroup, Link: 4, Info: 5, Ent: 24}, make([]byte, 24)},
		{".bss", api.Shdr{Type: api.ShtNobits, Flags: api.ShfGroup, Size: 3}, nil},
		{".symtab", api.Shdr{Type: api.ShtSymtab, Link: 6, Info: 1, Ent: 24}, symtab.Bytes(api.Raw{}, api.Raw{Name: 1, Bind: 1, Sect: 5, Value: 4})},
		{".data", api.Shdr{Type: api.ShtProgbits, Flags: api.ShfGroup}, []byte("1234")},
		{".strtab", api.Shdr{Type: api.ShtStrtab}, []byte("\x00sig\x00")},
	}
	b := fileOf(l...)
	want := api.Object{
		Sects:  []api.Sect{{Name: ".bss", Zero: true, Align: 1, Size: 3}, {Name: ".data", Align: 1, Size: 4, Data: []byte("1234"), Rels: []api.Rela{{}}}},
		Syms:   []api.Sym{{}, {Name: "sig", Bind: 1, Sect: 2, Value: 4}},
		Groups: []api.Group{{Sig: "sig", Members: []int{0, 1}}},
	}
	got, e := Read(b)
	if !same(got, want) || e != api.OK {
		t.Errorf("P15.2: %+v, %v", got, e)
	}
	must(t, "tables ahead", b, api.OK)

	// Names first, and last of all the group's member, which the group and the symbol lead to.
	b = fileOf(part{name: ".shstrtab"},
		part{".symtab", api.Shdr{Type: api.ShtSymtab, Link: 1, Info: 1, Ent: 24}, symtab.Bytes(api.Raw{}, api.Raw{Name: 1, Bind: 1, Sect: 5, Value: 2})},
		part{".group", api.Shdr{Type: api.ShtGroup, Link: 2, Info: 1, Ent: 4}, group.Bytes(5)},
		part{".rela", api.Shdr{Type: api.ShtRela, Link: 2, Info: 5, Ent: 24}, rela.Bytes(api.Rela{Off: 2, Type: api.RRelax, Sym: 1})},
		part{".last", api.Shdr{Type: api.ShtProgbits, Flags: api.ShfGroup}, []byte("xy")})
	want = api.Object{
		Sects:  []api.Sect{{Name: ".last", Align: 1, Size: 2, Data: []byte("xy"), Rels: []api.Rela{{Off: 2, Type: api.RRelax, Sym: 1}}}},
		Syms:   []api.Sym{{}, {Name: ".shstrtab", Bind: 1, Sect: 1, Value: 2}},
		Groups: []api.Group{{Sig: ".shstrtab", Members: []int{0}}},
	}
	if got, e := Read(b); !same(got, want) || e != api.OK {
		t.Errorf("P15.2: the last section: %+v, %v", got, e)
	}
}

// withSym: usual, with a symbol put behind the local ones, or behind all.
func withSym(r api.Raw) []byte {
	l, syms := usual(), usualSyms()
	if r.Bind == api.BindLocal {
		syms = slices.Insert(syms, 4, r)
		l[symbols-1].h.Info = 5
	} else {
		syms = append(syms, r)
	}
	l[symbols-1].b = symtab.Bytes(syms...)
	l[groupF-1].h.Info = uint32(slices.IndexFunc(syms, func(s api.Raw) bool { return s.Name == 6 }))
	return fileOf(l...)
}

// eachSym: a symbol of each kind that its table may have, as it may be bound, with any number of a section.
func eachSym(do func(r api.Raw)) {
	sects := []int{399, 400, 0xff00, 0xfff0, api.Abs, api.Common, 0xfff3, 0xffff}
	for sect := range usualSects + 3 {
		sects = append(sects, sect, 256+sect)
	}
	for _, sect := range sects {
		for kind := api.SymNone; kind <= api.SymFile; kind++ {
			do(api.Raw{Name: 1, Type: kind, Sect: sect})
			if kind != api.SymSection && kind != api.SymFile {
				do(api.Raw{Name: 1, Type: kind, Bind: api.BindGlobal, Sect: sect})
				do(api.Raw{Name: 1, Type: kind, Bind: api.BindWeak, Sect: sect})
			}
		}
	}
}

// TestReadSymSect: P15.1: where symbols may stand, by their types and bindings.
func TestReadSymSect(t *testing.T) {
	eachSym(func(r api.Raw) {
		content := r.Sect == text || r.Sect == bss || r.Sect == data
		want := content || r.Sect == api.Abs
		switch {
		case r.Type == api.SymSection:
			want = content
		case r.Type == api.SymFile:
			want = r.Sect == api.Abs
		case r.Bind != api.BindLocal:
			want = want || r.Sect == api.Undef || r.Sect == api.Common
		}
		r.Value, r.Size = 1, 1
		must(t, fmt.Sprintf("a symbol %+v", r), withSym(r), okOr(want, api.ErrSym))
	})
}

// TestReadSymValue: P15.1: in a content a value is the content's size at most; elsewhere it is any, but for a common's.
func TestReadSymValue(t *testing.T) {
	rooms := []uint64{text: 16, bss: 100, data: 12}
	eachSym(func(r api.Raw) {
		for _, value := range []uint64{0, 1, 11, 12, 13, 15, 16, 17, 99, 100, 101, 256, 1 << 32, 1 << 63, math.MaxUint64} {
			r.Value = value
			r.Size = ^value
			switch r.Sect {
			case text, bss, data:
				must(t, fmt.Sprintf("a value in a content: %+v", r), withSym(r), okOr(value <= rooms[r.Sect] && r.Type != api.SymFile, api.ErrSym))
			case api.Abs:
				must(t, fmt.Sprintf("an absolute value: %+v", r), withSym(r), okOr(r.Type != api.SymSection, api.ErrSym))
			case api.Undef:
				must(t, fmt.Sprintf("an undefined one's value: %+v", r), withSym(r), okOr(r.Bind != api.BindLocal, api.ErrSym))
			}
		}
	})
}

// TestReadCommon: P15.1: a common's value is an alignment, a power of two up to Page, its size MaxZero at most.
func TestReadCommon(t *testing.T) {
	common := api.Raw{Name: 1, Bind: api.BindGlobal, Sect: api.Common, Value: 1}
	values := map[uint64]bool{1: true, 2: true, 4: true, 8: true, 16: true, 32: true, 64: true, 128: true, 256: true, 512: true, 1024: true, 2048: true, 4096: true}
	for i := range uint64(64) {
		for _, value := range []uint64{1<<i - 1, 1 << i, 1<<i + 1, i} {
			r := common
			r.Value = value
			must(t, fmt.Sprintf("a common with alignment %d", value), withSym(r), okOr(values[value], api.ErrSym))
			r.Type, r.Bind = api.SymObject, api.BindWeak
			must(t, fmt.Sprintf("a weak common with alignment %d", value), withSym(r), okOr(values[value], api.ErrSym))
		}
	}
	for size, want := range map[uint64]bool{0: true, 1: true, api.MaxZero - 1: true, api.MaxZero: true, api.MaxZero + 1: false, 2 * api.MaxZero: false, 1 << 32: false, 1 << 63: false, math.MaxUint64: false} {
		r := common
		r.Size = size
		must(t, fmt.Sprintf("a common of %d bytes", size), withSym(r), okOr(want, api.ErrSym))
	}
	// Several of them together may be more.
	l, syms := usual(), usualSyms()
	common.Size = api.MaxZero
	l[symbols-1].b = symtab.Bytes(append(syms, common, common, common)...)
	must(t, "commons of MaxZero bytes", fileOf(l...), api.OK)
}

// TestReadSymtab: P15.1: the errors of the table of symbols are handed on; it has MaxSyms symbols at most.
func TestReadSymtab(t *testing.T) {
	for info := range uint32(12) {
		must(t, "a number of local ones", turned(symbols, func(p *part) { p.h.Info = info }), okOr(info == 4, api.ErrSym))
	}
	must(t, "a number of local ones far off", turned(symbols, func(p *part) { p.h.Info = 1<<31 + 4 }), api.ErrSym)
	for n := range 9 * 24 {
		want := api.ErrSym
		if n%24 == 0 && n >= 4*24 {
			// Such a table may be, but there are relocations of its last symbol.
			want = api.ErrRela
		}
		must(t, "symbols cut short", turned(symbols, func(p *part) { p.b = p.b[:n] }), want)
	}
	must(t, "the first isn't empty", turned(symbols, func(p *part) { p.b[0] = 1 }), api.ErrSym)
	must(t, "no names", turned(symNames, func(p *part) { p.b = nil }), api.ErrSym)
	must(t, "names cut short", turned(symNames, func(p *part) { p.b = p.b[:len(p.b)-1] }), api.ErrSym)
	for many, want := range map[int]bool{499: true, 500: true, 501: false, 1000: false} {
		b := turned(symbols, func(p *part) {
			p.b = append(p.b, bytes.Repeat(p.b[8*24:], many-9)...)
		})
		must(t, "many symbols", b, okOr(want, api.ErrSym))
		if o, _ := Read(b); want && len(o.Syms) != many {
			t.Errorf("P15.2: %d symbols: %d", many, len(o.Syms))
		}
	}
}

// TestReadSymNone: P15.2: a table of the empty symbol alone.
func TestReadSymNone(t *testing.T) {
	b := fileOf(part{".symtab", api.Shdr{Type: api.ShtSymtab, Link: 2, Info: 1, Ent: 24}, make([]byte, 24)})
	if o, e := Read(b); e != api.OK || !same(o, api.Object{Syms: []api.Sym{{}}}) {
		t.Errorf("P15.2: the empty symbol alone: %+v, %v", o, e)
	}
}

// TestReadRela: P15.1: each relocation is within its section, and of a symbol that there is.
func TestReadRela(t *testing.T) {
	for i, size := range map[int]uint64{relaText: 16, relaData: 12} {
		for _, kind := range []uint32{api.R32, api.R64, api.RCall, api.RBranch, api.RRelax, 0, 99, math.MaxUint32} {
			width := uint64(rela.Width(kind))
			for _, off := range []uint64{0, 3, 4, 5, 8, 9, 11, 12, 13, 15, 16, 17, 100, 1 << 32, 1 << 63, math.MaxUint64 - 3, math.MaxUint64} {
				b := turned(i, func(p *part) { p.b = append(p.b, rela.Bytes(api.Rela{Off: off, Type: kind})...) })
				must(t, "an offset", b, okOr(off <= size && off+width <= size, api.ErrRela))
			}
		}
		for _, sym := range []uint32{0, 1, 8, 9, 10, 255, 256, 264, 1 << 16, 1 << 31, math.MaxUint32} {
			b := turned(i, func(p *part) { p.b = append(p.b, rela.Bytes(api.Rela{Type: api.R32, Sym: sym})...) })
			must(t, "a symbol", b, okOr(sym < 9, api.ErrRela))
		}
		for n := range 3 * 24 {
			must(t, "bytes too many", turned(i, func(p *part) { p.b = append(p.b, make([]byte, n)...) }), okOr(n%24 == 0, api.ErrRela))
		}
		must(t, "none", turned(i, func(p *part) { p.b = nil }), api.OK)
	}
}

// TestReadRelas: P15.1: all relocations together are MaxRels at most, however many sections they are of.
func TestReadRelas(t *testing.T) {
	for _, c := range []struct {
		text, data int
		want       bool
	}{
		{2000, 0, true}, {0, 2000, true}, {1000, 1000, true}, {1, 1999, true}, {1999, 1, true},
		{2001, 0, false}, {0, 2001, false}, {1000, 1001, false}, {2000, 1, false}, {1, 2000, false}, {2000, 2000, false},
	} {
		l := usual()
		l[relaText-1].b, l[relaData-1].b = make([]byte, 24*c.text), make([]byte, 24*c.data)
		b := fileOf(l...)
		must(t, fmt.Sprintf("%d and %d relocations", c.text, c.data), b, okOr(c.want, api.ErrRela))
		if o, _ := Read(b); c.want && (len(o.Sects[0].Rels) != c.text || len(o.Sects[2].Rels) != c.data) {
			t.Errorf("P15.2: %d and %d relocations", c.text, c.data)
		}
	}
	var l []part
	for range 100 {
		l = append(l, part{"p", api.Shdr{Type: api.ShtProgbits}, make([]byte, 4)})
	}
	l = append(l, part{".symtab", api.Shdr{Type: api.ShtSymtab, Link: 202, Info: 1, Ent: 24}, make([]byte, 24)})
	for i := range 100 {
		l = append(l, part{".relap", api.Shdr{Type: api.ShtRela, Link: 101, Info: uint32(100 - i), Ent: 24}, make([]byte, 24*20)})
	}
	must(t, "20 relocations of each of 100 sections", fileOf(l...), api.OK)
	l[150].b = make([]byte, 24*21)
	must(t, "one more", fileOf(l...), api.ErrRela)
}

// TestReadGroup: P15.1, P15.2: members are contents and relocations that say that they are in a group.
func TestReadGroup(t *testing.T) {
	for m := range usualSects + 3 {
		if m == text || m == relaText {
			continue
		}
		for _, flags := range []uint64{0, api.ShfGroup} {
			l := usual()
			if m >= 1 && m < usualSects {
				l[m-1].h.Flags |= flags
			}
			members := []int{text, relaText, m}
			slices.Sort(members)
			l[groupF-1].b = group.Bytes(members...)
			want := flags != 0 && (m == bss || m == data || m == relaData)
			must(t, fmt.Sprintf("member %d with flags %x", m, flags), fileOf(l...), okOr(want, api.ErrGroup))
		}
	}
	l := usual()
	l[bss-1].h.Flags |= api.ShfGroup
	l[data-1].h.Flags |= api.ShfGroup
	l[relaData-1].h.Flags |= api.ShfGroup
	l[groupF-1].b = group.Bytes(text, bss, relaText, data, relaData)
	b := fileOf(l...)
	must(t, "all of them", b, api.OK)
	if o, _ := Read(b); len(o.Groups) != 1 || !slices.Equal(o.Groups[0].Members, []int{0, 1, 2}) {
		t.Errorf("P15.2: a group of all contents: %+v", o.Groups)
	}
	for _, list := range [][]int{{relaText, text}, {text, text}, {text, relaText, 400}, {0, text}} {
		must(t, "members", turned(groupF, func(p *part) { p.b = group.Bytes(list...) }), api.ErrGroup)
	}
	for n := range 13 {
		must(t, "a group cut short", turned(groupF, func(p *part) { p.b = p.b[:n] }), okOr(n == 8 || n == 12, api.ErrGroup))
	}
	must(t, "not one of which one is kept", turned(groupF, func(p *part) { p.b[0] = 0 }), api.ErrGroup)
}

// TestReadGroupless: P15.1: a content that says that it is in a group is in one, also where there are none; relocations needn't be.
func TestReadGroupless(t *testing.T) {
	for _, i := range []int{bss, data} {
		must(t, "a content that is in no group", turned(i, func(p *part) { p.h.Flags |= api.ShfGroup }), api.ErrGroup)
		must(t, "a content alone", fileOf(part{"c", api.Shdr{Type: usual()[i-1].h.Type, Flags: api.ShfGroup}, nil}), api.ErrGroup)
	}
	must(t, "relocations that are in no group", turned(relaData, func(p *part) { p.h.Flags |= api.ShfGroup }), api.OK)
	must(t, "relocations aren't with their content", turned(groupF, func(p *part) { p.b = group.Bytes(text) }), api.OK)
	must(t, "relocations without their content", turned(groupF, func(p *part) { p.b = group.Bytes(relaText) }), api.ErrGroup)
	l := usual()
	l[text-1].h.Flags &^= api.ShfGroup
	l[groupF-1].b = group.Bytes(relaText)
	b := fileOf(l...)
	must(t, "relocations without their content, which says so", b, api.OK)
	if o, _ := Read(b); len(o.Groups) != 1 || o.Groups[0].Sig != "f" || len(o.Groups[0].Members) != 0 {
		t.Errorf("P15.2: a group of relocations alone: %+v", o.Groups)
	}
}

// TestReadSig: P15.1, P15.2: a group's Info is the number of a symbol that has a name, of whatever kind.
func TestReadSig(t *testing.T) {
	want := []string{"", "file.c", "", "here", "f", "x", "common", "x", "e.c", "", ""}
	for info, name := range want {
		b := turned(groupF, func(p *part) { p.h.Info = uint32(info) })
		must(t, fmt.Sprintf("the sign is symbol %d", info), b, okOr(name != "", api.ErrGroup))
		if o, e := Read(b); e == api.OK && o.Groups[0].Sig != name {
			t.Errorf("P15.2: the sign is %q, not %q", o.Groups[0].Sig, name)
		}
	}
	for _, info := range farOff(4) {
		must(t, "a sign far off", turned(groupF, func(p *part) { p.h.Info = info }), api.ErrGroup)
	}
	// A section's symbol may have a name, too.
	must(t, "a section's name", turned(groupF, func(p *part) { p.h.Info = 2 }), api.ErrGroup)
	l, syms := usual(), usualSyms()
	syms[2].Name = 1
	l[symbols-1].b, l[groupF-1].h.Info = symtab.Bytes(syms...), 2
	must(t, "a section's symbol with a name", fileOf(l...), api.OK)
}

// TestReadGroups: P15.1, P15.2: several groups, in order; no section is in two of them, be it a content or relocations.
func TestReadGroups(t *testing.T) {
	of := func(members ...[]int) []byte {
		l := usual()
		for _, i := range []int{text, bss, data, relaText, relaData} {
			l[i-1].h.Flags |= api.ShfGroup
		}
		l[groupF-1].b = group.Bytes(members[0]...)
		for i, m := range members[1:] {
			l = append(l, part{".group", api.Shdr{Type: api.ShtGroup, Link: symbols, Info: uint32(5 + i), Ent: 4}, group.Bytes(m...)})
		}
		return fileOf(l...)
	}
	for _, c := range []struct {
		l    [][]int
		want bool
	}{
		{[][]int{{text, relaText}, {bss}, {data, relaData}}, true},
		{[][]int{{data, relaData}, {text, bss, relaText}}, true},
		{[][]int{{}, {text, bss, data}, {}}, true},
		{[][]int{{text}, {bss, relaText}, {data}}, true},
		{[][]int{{text, relaText}, {bss}, {}}, false},
		{[][]int{{text, bss, data}, {text}}, false},
		{[][]int{{text, bss, data}, {data}}, false},
		{[][]int{{text, bss}, {}, {bss, data}}, false},
		{[][]int{{text, bss, relaText, data}, {relaText}}, false},
		{[][]int{{text, bss, data}, {relaText}, {relaText, relaData}}, false},
	} {
		must(t, fmt.Sprintf("groups %v", c.l), of(c.l...), okOr(c.want, api.ErrGroup))
	}
	o, e := Read(of([]int{data, relaData}, []int{relaText}, []int{text, bss}))
	want := []api.Group{{Sig: "f", Members: []int{2}}, {Sig: "x"}, {Sig: "common", Members: []int{0, 1}}}
	if e != api.OK || !same(api.Object{Groups: o.Groups}, api.Object{Groups: want}) {
		t.Errorf("P15.2: groups: %+v, %v", o.Groups, e)
	}
}

// TestReadFirstError: P15.1: of several errors the first part's is told; nothing is told beside it.
func TestReadFirstError(t *testing.T) {
	faults := []struct {
		e     api.Errno
		wrong func(l []part)
	}{
		{api.ErrSect, func(l []part) { l[bss-1].h.Align = 3 }},
		{api.ErrSect, func(l []part) { l[data-1].h.Flags |= api.ShfExec }},
		{api.ErrSect, func(l []part) { l[bss-1].h.Flags |= api.ShfExec }},
		{api.ErrSect, func(l []part) { l[relaData-1].h.Info = bss }},
		{api.ErrSect, func(l []part) { l[groupF-1].h.Ent = 0 }},
		{api.ErrSym, func(l []part) { l[symbols-1].h.Info = 0 }},
		{api.ErrSym, func(l []part) { l[symbols-1].b[3*24+6] = symNames }},
		{api.ErrSym, func(l []part) { l[symbols-1].b[3*24+8]++ }},
		{api.ErrRela, func(l []part) { l[relaText-1].b[0]++ }},
		{api.ErrRela, func(l []part) { l[relaData-1].b = make([]byte, 2000*24) }},
		{api.ErrGroup, func(l []part) { l[groupF-1].b[0] = 2 }},
		{api.ErrGroup, func(l []part) { l[groupF-1].h.Info = 2 }},
		{api.ErrGroup, func(l []part) { l[relaText-1].h.Flags = 0 }},
	}
	for _, x := range faults {
		for _, y := range faults {
			l := usual()
			x.wrong(l)
			y.wrong(l)
			b := fileOf(l...)
			must(t, "two faults", b, min(x.e, y.e))
			must(t, "two faults, and no head", b[1:], api.ErrHead)
			if o, _ := Read(b); !same(o, api.Object{}) {
				t.Errorf("P15.1: beside an error: %+v", o)
			}
		}
	}
}

// TestReadEachByte: P15.1, P15.2: each byte of a file as each value.
func TestReadEachByte(t *testing.T) {
	b := fileOf(usual()...)
	seen := map[api.Errno]int{}
	for i := range b {
		old := b[i]
		for v := range 256 {
			b[i] = byte(v)
			seen[checked(t, fmt.Sprintf("byte %d is %d", i, v), b)]++
		}
		b[i] = old
	}
	for _, e := range []api.Errno{api.OK, api.ErrHead, api.ErrSect, api.ErrSym, api.ErrRela, api.ErrGroup} {
		if seen[e] < 100 {
			t.Errorf("P15.1: %v was told %d times", e, seen[e])
		}
	}
}

// TestReadAny: P15.1, P15.2: files with several bytes changed at once, and bytes of any kind.
func TestReadAny(t *testing.T) {
	rnd := rand.New(rand.NewSource(51))
	first := fileOf(usual()...)
	seen := map[api.Errno]int{}
	for range 20000 {
		b := bytes.Clone(first)
		for range rnd.Intn(6) {
			b[64+rnd.Intn(len(b)-64)] = byte(rnd.Intn(12))
		}
		seen[checked(t, "several bytes", b)]++
	}
	for _, e := range []api.Errno{api.OK, api.ErrSect, api.ErrSym, api.ErrRela, api.ErrGroup} {
		if seen[e] < 100 {
			t.Errorf("P15.1: %v was told %d times", e, seen[e])
		}
	}
	for n := range 500 {
		b := make([]byte, n)
		rnd.Read(b)
		checked(t, "any bytes", b)
	}
}

// TestReadGreat: P15.1: as many sections as a file may have, each as long as the whole file: this ends in time.
func TestReadGreat(t *testing.T) {
	for kind, want := range map[uint32]api.Errno{api.ShtProgbits: api.ErrSect, api.ShtStrtab: api.OK, api.ShtRela: api.ErrSect, api.ShtGroup: api.ErrSect} {
		great(t, kind, 397, want)
	}
	great(t, api.ShtProgbits, 100, api.OK)
	great(t, api.ShtProgbits, 101, api.ErrSect)
}

// great: a file of so many sections of that kind, each of which has all its bytes.
func great(t *testing.T, kind uint32, many int, want api.Errno) {
	t.Helper()
	h := api.Head{Shoff: 64, Shnum: many + 2, Shstrndx: 1}
	heads := []api.Shdr{{}, {Type: api.ShtStrtab, Off: 8, Size: 8}}
	for range many {
		heads = append(heads, api.Shdr{Type: kind, Size: api.MaxFile, Ent: 24})
	}
	b := append(head.Bytes(h), shdr.Bytes(heads...)...)
	b = append(b, make([]byte, api.MaxFile-len(b))...)
	o, e := Read(b)
	if e != want {
		t.Errorf("P15.1: %d great sections of type %d: %v, wanted %v", many, kind, e, want)
	}
	for _, s := range o.Sects {
		if s.Size != api.MaxFile || !bytes.Equal(s.Data, b) {
			t.Errorf("P15.2: a section of the whole file has %d bytes", len(s.Data))
		}
	}
}

// TestReadOwnMemory: P15.2: the file is neither changed nor kept, the spare room behind it included; what is answered is new memory, no two lists of which share any.
func TestReadOwnMemory(t *testing.T) {
	// Two sections with the same bytes, which aren't the same memory once they are read.
	l := []part{{"a", api.Shdr{Type: api.ShtProgbits}, []byte("bytes")}, {"b", api.Shdr{Type: api.ShtProgbits}, nil}}
	both := fileOf(l...)
	at := len(both) - 2*64
	copy(both[at+24:at+40], both[at-64+24:at-64+40])
	o, e := Read(both)
	if e != api.OK || string(o.Sects[0].Data) != "bytes" || string(o.Sects[1].Data) != "bytes" {
		t.Fatalf("P15.2: two sections with the same bytes: %+v, %v", o, e)
	}
	clear(o.Sects[0].Data)
	if string(o.Sects[1].Data) != "bytes" {
		t.Error("P15.2: two sections share their bytes")
	}

	whole := append(fileOf(usual()...), "spare room"...)
	old := bytes.Clone(whole)
	b := whole[:len(whole)-10]
	o, _ = Read(b)
	for _, s := range o.Sects {
		_ = append(s.Data, 'x')
	}
	if !bytes.Equal(whole, old) {
		t.Error("P15.2: the file was changed")
	}
	clear(whole)
	if !same(o, usualObject()) {
		t.Errorf("P15.2: the file was kept: %+v", o)
	}
	copy(whole, old)
	for _, s := range o.Sects {
		clear(s.Data[:cap(s.Data)])
		clear(s.Rels[:cap(s.Rels)])
	}
	for _, g := range o.Groups {
		clear(g.Members[:cap(g.Members)])
	}
	clear(o.Sects[:cap(o.Sects)])
	clear(o.Syms[:cap(o.Syms)])
	if o, e := Read(b); !same(o, usualObject()) || e != api.OK {
		t.Errorf("P15.2: the second time: %+v, %v", o, e)
	}
}

// sound: P15.4: all that a linker goes by, so that it needn't look whether it is there.
func sound(t *testing.T, o api.Object) {
	t.Helper()
	if len(o.Sects) > 100 || len(o.Syms) < 1 || len(o.Syms) > 500 || o.Syms[0] != (api.Sym{}) {
		t.Fatalf("P15.4: %d sections, %d symbols", len(o.Sects), len(o.Syms))
	}
	rels, zeros := 0, uint64(0)
	for _, s := range o.Sects {
		if s.Align == 0 || s.Align > 4096 || s.Align&(s.Align-1) != 0 || s.Flags&^0x37 != 0 || s.Flags&5 == 5 {
			t.Fatalf("P15.4: a section %+v", s)
		}
		rels += len(s.Rels)
		if s.Zero {
			zeros += s.Size
		}
		if s.Zero && (len(s.Data) > 0 || len(s.Rels) > 0 || s.Flags&4 != 0) || !s.Zero && s.Size != uint64(len(s.Data)) {
			t.Fatalf("P15.4: a section's bytes %+v", s)
		}
		for _, r := range s.Rels {
			if int(r.Sym) >= len(o.Syms) || r.Off > s.Size || s.Size-r.Off < uint64(rela.Width(r.Type)) {
				t.Fatalf("P15.4: a relocation %+v", r)
			}
		}
	}
	if rels > 2000 || zeros > 1<<26 {
		t.Fatalf("P15.4: %d relocations, %d zeros", rels, zeros)
	}
	soundSyms(t, o)
	soundGroups(t, o)
}

// soundSyms: P15.4: the same of symbols.
func soundSyms(t *testing.T, o api.Object) {
	t.Helper()
	ended := false
	for _, s := range o.Syms[1:] {
		ended = ended || s.Bind != 0
		wrong := ended == (s.Bind == 0) || s.Bind > 2 || ended && s.Name == "" || ended && s.Type > 2 || s.Type > 4
		switch s.Sect {
		case api.Abs:
			wrong = wrong || s.Type == 3
		case api.Undef:
			wrong = wrong || !ended
		case api.Common:
			wrong = wrong || !ended || s.Value == 0 || s.Value > 4096 || s.Value&(s.Value-1) != 0 || s.Size > 1<<26
		default:
			wrong = wrong || s.Sect < 1 || s.Sect > len(o.Sects) || s.Value > o.Sects[s.Sect-1].Size || s.Type == 4
		}
		if wrong {
			t.Fatalf("P15.4: a symbol %+v", s)
		}
	}
}

// soundGroups: P15.4: the same of groups.
func soundGroups(t *testing.T, o api.Object) {
	t.Helper()
	in := make([]int, len(o.Sects))
	for _, g := range o.Groups {
		if g.Sig == "" || !slices.ContainsFunc(o.Syms, func(s api.Sym) bool { return s.Name == g.Sig }) || !slices.IsSorted(g.Members) {
			t.Fatalf("P15.4: a group %+v", g)
		}
		for _, m := range g.Members {
			in[m]++
			if in[m] > 1 {
				t.Fatalf("P15.4: section %d is in two groups: %+v", m, o.Groups)
			}
		}
	}
}

// TestReadSound: P15.4: whatever is read may be linked without a look at its bytes; and Check takes it.
func TestReadSound(t *testing.T) {
	rnd := rand.New(rand.NewSource(52))
	first := fileOf(usual()...)
	read := 0
	for range 60000 {
		b := bytes.Clone(first)
		for range 1 + rnd.Intn(4) {
			at := 64 + rnd.Intn(len(b)-64)
			b[at] = []byte{byte(rnd.Intn(12)), byte(rnd.Intn(256)), b[at] + 1, b[at] - 1}[rnd.Intn(4)]
		}
		o, e := Read(b)
		if e != api.OK {
			continue
		}
		read++
		sound(t, o)
		if e := Check(o); e != api.OK {
			t.Fatalf("P15.3: what Read tells: %v: %+v", e, o)
		}
	}
	if read < 5000 {
		t.Errorf("P15.4: only %d files were read", read)
	}
}
