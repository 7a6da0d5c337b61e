package emit

import (
	"bytes"
	"debug/elf"
	"encoding/binary"
	"fmt"
	"math"
	"math/rand"
	"slices"
	"strings"
	"testing"

	"dovetail/api"
	"dovetail/obj"
)

// usualObject: one with some of everything.
func usualObject() api.Object {
	return api.Object{
		Sects: []api.Sect{
			{Name: ".text", Flags: 6, Align: 4, Size: 16, Data: []byte("0123456789abcdef"), Rels: []api.Rela{{Off: 8, Type: 18, Sym: 5, Add: -1}, {Off: 16, Type: 51}, {Type: 99, Sym: 8, Add: math.MaxInt64}}},
			{Name: ".bss", Zero: true, Flags: 3, Align: 1, Size: 100},
			{Name: ".data", Flags: 0x33, Align: 4096, Size: 12, Data: []byte("some data..."), Rels: []api.Rela{{Off: 4, Type: 2, Sym: 3}}},
			{Name: ".text", Align: 1, Size: 1, Data: []byte("!")},
		},
		Syms: []api.Sym{
			{},
			{Name: "file.c", Type: 4, Sect: 0xfff1},
			{Type: 3, Sect: 1},
			{Name: "here", Type: 1, Sect: 2, Value: 100, Size: 4},
			{Name: "f", Bind: 1, Type: 2, Sect: 1, Value: 8, Size: 8},
			{Name: "x", Bind: 2},
			{Name: "common", Bind: 1, Type: 1, Sect: 0xfff2, Value: 16, Size: 40},
			{Name: "x", Bind: 1, Sect: 3, Value: 12},
			{Name: "e.c", Bind: 1, Sect: 0xfff1, Value: math.MaxUint64},
		},
		Groups: []api.Group{{Sig: "x", Members: []int{1, 2}}, {Sig: "here"}, {Sig: "f", Members: []int{0}}},
	}
}

// changed: usualObject, changed.
func changed(change func(o *api.Object)) api.Object {
	o := usualObject()
	change(&o)
	return o
}

// copyOf: o in memory of its own.
func copyOf(o api.Object) api.Object {
	c := api.Object{Sects: slices.Clone(o.Sects), Syms: slices.Clone(o.Syms), Groups: slices.Clone(o.Groups)}
	for i := range c.Sects {
		c.Sects[i].Data = slices.Clone(c.Sects[i].Data)
		c.Sects[i].Rels = slices.Clone(c.Sects[i].Rels)
	}
	for i := range c.Groups {
		c.Groups[i].Members = slices.Clone(c.Groups[i].Members)
	}
	return c
}

// same: whether two objects are the same, where no list and an empty one are.
func same(a, b api.Object) bool {
	sect := func(x, y api.Sect) bool {
		return x.Name == y.Name && x.Zero == y.Zero && x.Flags == y.Flags && x.Align == y.Align && x.Size == y.Size && bytes.Equal(x.Data, y.Data) && slices.Equal(x.Rels, y.Rels)
	}
	one := func(x, y api.Group) bool { return x.Sig == y.Sig && slices.Equal(x.Members, y.Members) }
	return slices.EqualFunc(a.Sects, b.Sects, sect) && slices.Equal(a.Syms, b.Syms) && slices.EqualFunc(a.Groups, b.Groups, one)
}

// header: what the chapter says of a section's header, and the section's bytes; with them what Read asks of a table.
type header struct {
	name                string
	kind, link, info    uint32
	flags, size, ent    uint64
	data                []byte
	anyOf               []uint32 // what info may be, where it may be several
	align, place, named uint64
}

// plainTable: a table of names, and where each stands: the first time that it is told.
func plainTable(names []string) ([]byte, []uint64) {
	tab := []byte{0}
	var at []uint64
next:
	for i, name := range names {
		if name == "" {
			at = append(at, 0)
			continue
		}
		for k, ahead := range names[:i] {
			if name == ahead {
				at = append(at, at[k])
				continue next
			}
		}
		at = append(at, uint64(len(tab)))
		tab = append(append(tab, name...), 0)
	}
	return tab, at
}

// le: numbers of 1, 2, 4 or 8 bytes each, the lowest byte first.
func le(v ...any) []byte {
	b, err := binary.Append(nil, binary.LittleEndian, v[0])
	if err != nil {
		panic(err)
	}
	if len(v) > 1 {
		b = append(b, le(v[1:]...)...)
	}
	return b
}

// plainHeaders: P16.1's words: the sections of a file of o, in order, the empty one ahead.
func plainHeaders(o api.Object) []header {
	l := []header{{}}
	in := func(content int) uint64 {
		for _, g := range o.Groups {
			if slices.Contains(g.Members, content) {
				return 0x200
			}
		}
		return 0
	}
	for i, s := range o.Sects {
		h := header{name: s.Name, kind: 1, flags: s.Flags | in(i), size: s.Size, data: s.Data, align: s.Align}
		if s.Zero {
			h.kind = 8
		}
		l = append(l, h)
	}
	var names []string
	for _, s := range o.Syms {
		names = append(names, s.Name)
	}
	tab, at := plainTable(names)
	var syms []byte
	locals := uint32(0)
	for i, s := range o.Syms {
		syms = append(syms, le(uint32(at[i]), byte(s.Bind*16+s.Type), byte(0), uint16(s.Sect), s.Value, s.Size)...)
		if s.Bind == 0 {
			locals++
		}
	}
	table := uint32(len(l))
	l = append(l, header{name: ".symtab", kind: 2, link: table + 1, info: locals, ent: 24, data: syms}, header{name: ".strtab", kind: 3, data: tab})
	relaOf := map[int]uint32{}
	for i, s := range o.Sects {
		if len(s.Rels) == 0 {
			continue
		}
		var rels []byte
		for _, r := range s.Rels {
			rels = append(rels, le(r.Off, r.Type, r.Sym, r.Add)...)
		}
		relaOf[i] = uint32(len(l))
		l = append(l, header{name: ".rela" + s.Name, kind: 4, flags: 0x40 | in(i), link: table, info: uint32(i + 1), ent: 24, data: rels})
	}
	for _, g := range o.Groups {
		var members []uint32
		for _, m := range g.Members {
			members = append(members, uint32(m+1))
			if n, found := relaOf[m]; found {
				members = append(members, n)
			}
		}
		slices.Sort(members)
		h := header{name: ".group", kind: 17, link: table, ent: 4, data: le(append([]uint32{1}, members...))}
		for i, s := range o.Syms {
			if s.Name == g.Sig {
				h.anyOf = append(h.anyOf, uint32(i))
			}
		}
		l = append(l, h)
	}
	l = append(l, header{name: ".shstrtab", kind: 3})
	return placed(l)
}

// placed: l with the sections' names, and where all stand: each at the next multiple of 8 behind the head.
func placed(l []header) []header {
	var names []string
	for _, h := range l {
		names = append(names, h.name)
	}
	tab, at := plainTable(names)
	l[len(l)-1].data = tab
	place := uint64(64)
	for i := range l {
		l[i].named = at[i]
		if l[i].kind == 0 || l[i].kind == 8 {
			continue
		}
		for place%8 != 0 {
			place++
		}
		l[i].place = place
		l[i].size = uint64(len(l[i].data))
		place += l[i].size
	}
	return l
}

// plainEnd: where a file's headers begin, and how long it is.
func plainEnd(l []header) (uint64, uint64) {
	last := l[len(l)-1]
	end := last.place + last.size
	for end%8 != 0 {
		end++
	}
	return end, end + 64*uint64(len(l))
}

// short: the beginning of a value's telling, which may be as long as a file.
func short(v any) string {
	return fmt.Sprintf("%.2000s", fmt.Sprintf("%+v", v))
}

// isFileOf: that b is a file of o as P16.1 says, each field that is asked for.
func isFileOf(t *testing.T, what string, b []byte, o api.Object) {
	t.Helper()
	l := plainHeaders(o)
	end, size := plainEnd(l)
	if uint64(len(b)) != size {
		t.Fatalf("P16.1: %s: %d bytes, wanted %d", what, len(b), size)
	}
	first := []byte("\x7fELF\x02\x01\x01\x00\x00\x00\x00\x00\x00\x00\x00\x00")
	first = append(first, le(uint16(1), uint16(243), uint32(1), uint64(0), uint64(0), end, uint32(0), uint16(64), uint16(0), uint16(0), uint16(64), uint16(len(l)), uint16(len(l)-1))...)
	if !bytes.Equal(b[:64], first) {
		t.Errorf("P16.1: %s: the head is % x, wanted % x", what, b[:64], first)
	}
	for i, h := range l {
		isHeader(t, fmt.Sprintf("%s: header %d", what, i), b, b[end+64*uint64(i):][:64], h)
	}
	if !bytes.Equal(b[end:][:64], make([]byte, 64)) {
		t.Errorf("P16.1: %s: the first header isn't empty", what)
	}
}

// isHeader: that these 64 bytes of b are the header h, and its bytes where it says.
func isHeader(t *testing.T, what string, b, got []byte, h header) {
	t.Helper()
	u32 := func(at int) uint32 { return binary.LittleEndian.Uint32(got[at:]) }
	u64 := func(at int) uint64 { return binary.LittleEndian.Uint64(got[at:]) }
	if uint64(u32(0)) != h.named || u32(4) != h.kind || u64(8) != h.flags || u64(16) != 0 || u64(32) != h.size {
		t.Errorf("P16.1: %s: % x, wanted %s", what, got, short(h))
	}
	if h.kind != 0 && h.kind != 8 {
		if u64(24) != h.place {
			t.Errorf("P16.1: %s: at %d, wanted %d", what, u64(24), h.place)
		} else if !bytes.Equal(b[h.place:][:h.size], h.data) {
			t.Errorf("P16.1: %s: bytes %s, wanted %s", what, short(b[h.place:][:h.size]), short(h.data))
		}
	}
	switch h.kind {
	case 1, 8:
		if u64(48) != h.align {
			t.Errorf("P16.1: %s: alignment %d, wanted %d", what, u64(48), h.align)
		}
	case 17:
		if u32(40) != h.link || !slices.Contains(h.anyOf, u32(44)) || u64(56) != h.ent {
			t.Errorf("P16.1: %s: % x, wanted %s", what, got, short(h))
		}
	case 2, 4:
		if u32(40) != h.link || u32(44) != h.info || u64(56) != h.ent {
			t.Errorf("P16.1: %s: % x, wanted %s", what, got, short(h))
		}
	}
}

// mustWrite: that Write tells a file of o as P16.1 says, and P16.2 holds; the file.
func mustWrite(t *testing.T, what string, o api.Object) []byte {
	t.Helper()
	b, e := Write(o)
	if e != api.OK {
		t.Fatalf("P16.1: %s: %v", what, e)
	}
	isFileOf(t, what, b, o)
	got, e := obj.Read(b)
	if e != api.OK || !same(got, o) {
		t.Fatalf("P16.2: %s: %v, %s, wanted %s", what, e, short(got), short(o))
	}
	return b
}

// mustNot: that Write tells this error, and nothing beside it.
func mustNot(t *testing.T, what string, o api.Object, want api.Errno) {
	t.Helper()
	if b, e := Write(o); e != want || len(b) != 0 {
		t.Errorf("P16.1: %s: %d bytes, %v, wanted %v", what, len(b), e, want)
	}
}

// TestWriteEmpty: P16.1: the chapter's example, byte by byte where the chapter says what they are.
func TestWriteEmpty(t *testing.T) {
	for _, o := range []api.Object{{Syms: []api.Sym{{}}}, {Sects: []api.Sect{}, Syms: []api.Sym{{}}, Groups: []api.Group{}}} {
		b := mustWrite(t, "an empty object", o)
		if len(b) != 384 {
			t.Fatalf("P16.1: an empty object has %d bytes", len(b))
		}
		if string(b[:64]) != "\x7fELF\x02\x01\x01\x00\x00\x00\x00\x00\x00\x00\x00\x00\x01\x00\xf3\x00\x01\x00\x00\x00"+strings.Repeat("\x00", 16)+"\x80\x00\x00\x00\x00\x00\x00\x00\x00\x00\x00\x00\x40\x00\x00\x00\x00\x00\x40\x00\x04\x00\x03\x00" {
			t.Errorf("P16.1: an empty object's head: % x", b[:64])
		}
		if string(b[64:89]) != strings.Repeat("\x00", 25) || string(b[96:123]) != "\x00.symtab\x00.strtab\x00.shstrtab\x00" || string(b[128:192]) != strings.Repeat("\x00", 64) {
			t.Errorf("P16.1: an empty object's tables: % x", b[64:192])
		}
		for i, want := range [][4]uint64{{1, 2, 64, 24}, {9, 3, 88, 1}, {17, 3, 96, 27}} {
			h := b[192+64*i:]
			got := [4]uint64{uint64(binary.LittleEndian.Uint32(h)), uint64(binary.LittleEndian.Uint32(h[4:])), binary.LittleEndian.Uint64(h[24:]), binary.LittleEndian.Uint64(h[32:])}
			if got != want {
				t.Errorf("P16.1: an empty object's header %d: %d, wanted %d", i+1, got, want)
			}
		}
	}
}

// TestWriteUsual: P16.1, P16.2: some of everything: names, types, flags, places and members, written out.
func TestWriteUsual(t *testing.T) {
	b := mustWrite(t, "the usual object", usualObject())
	for _, c := range []struct {
		at   int
		want string
	}{
		{64, "0123456789abcdef"},
		{80, "some data..."},
		{96, "!"},
		{104, strings.Repeat("\x00", 24)},
		{128, "\x01\x00\x00\x00\x04\x00\xf1\xff"},
		{152, "\x00\x00\x00\x00\x03\x00\x01\x00"},
		{176, "\x08\x00\x00\x00\x01\x00\x02\x00\x64\x00\x00\x00\x00\x00\x00\x00\x04\x00\x00\x00\x00\x00\x00\x00"},
		{200, "\x0d\x00\x00\x00\x12\x00\x01\x00"},
		{224, "\x0f\x00\x00\x00\x20\x00\x00\x00"},
		{248, "\x11\x00\x00\x00\x11\x00\xf2\xff\x10\x00\x00\x00\x00\x00\x00\x00\x28\x00\x00\x00\x00\x00\x00\x00"},
		{272, "\x0f\x00\x00\x00\x10\x00\x03\x00"},
		{296, "\x18\x00\x00\x00\x10\x00\xf1\xff\xff\xff\xff\xff\xff\xff\xff\xff"},
		{320, "\x00file.c\x00here\x00f\x00x\x00common\x00e.c\x00"},
		{352, "\x08\x00\x00\x00\x00\x00\x00\x00\x12\x00\x00\x00\x05\x00\x00\x00\xff\xff\xff\xff\xff\xff\xff\xff"},
		{376, "\x10\x00\x00\x00\x00\x00\x00\x00\x33\x00\x00\x00"},
		{424, "\x04\x00\x00\x00\x00\x00\x00\x00\x02\x00\x00\x00\x03\x00\x00\x00"},
		{448, "\x01\x00\x00\x00\x02\x00\x00\x00\x03\x00\x00\x00\x08\x00\x00\x00"},
		{464, "\x01\x00\x00\x00"},
		{472, "\x01\x00\x00\x00\x01\x00\x00\x00\x07\x00\x00\x00"},
		{488, "\x00.text\x00.bss\x00.data\x00.symtab\x00.strtab\x00.rela.text\x00.rela.data\x00.group\x00.shstrtab\x00"},
	} {
		if got := string(b[c.at:][:len(c.want)]); got != c.want {
			t.Errorf("P16.1: at %d: %q, wanted %q", c.at, got, c.want)
		}
	}
	if len(b) != 568+13*64 {
		t.Errorf("P16.1: %d bytes", len(b))
	}
	for i, want := range []uint64{0, 0x206, 0x203, 0x233, 0, 0, 0, 0x240, 0x240, 0, 0, 0, 0} {
		if got := binary.LittleEndian.Uint64(b[568+64*i+8:]); got != want {
			t.Errorf("P16.1: header %d has flags %x, wanted %x", i, got, want)
		}
	}
}

// TestWriteChecked: P16.1: an object that obj.Check refuses has its error, whether it has room in a file or not.
func TestWriteChecked(t *testing.T) {
	wrong := map[api.Errno][]func(o *api.Object){
		api.ErrSect: {
			func(o *api.Object) { o.Sects[0].Align = 3 },
			func(o *api.Object) { o.Sects[0].Flags = 0x200 },
			func(o *api.Object) { o.Sects[0].Size++ },
			func(o *api.Object) { o.Sects[0].Name = strings.Repeat("n", 196) },
			func(o *api.Object) { o.Sects[1].Rels = []api.Rela{{}} },
			func(o *api.Object) { o.Sects = append(o.Sects, make([]api.Sect, 100)...) },
		},
		api.ErrSym: {
			func(o *api.Object) { o.Syms = nil },
			func(o *api.Object) { o.Syms[0].Name = "x" },
			func(o *api.Object) { o.Syms[1].Sect = 5 },
			func(o *api.Object) { o.Syms[5].Bind = 0 },
			func(o *api.Object) { o.Syms[1].Bind = 1 },
			func(o *api.Object) { o.Syms[8].Name = "a\x00" },
			func(o *api.Object) { o.Syms[5].Sect = 0x10001 },
		},
		api.ErrRela: {
			func(o *api.Object) { o.Sects[0].Rels[1].Off++ },
			func(o *api.Object) { o.Sects[2].Rels[0].Sym = 9 },
			func(o *api.Object) { o.Sects[0].Rels = make([]api.Rela, 2000) },
		},
		api.ErrGroup: {
			func(o *api.Object) { o.Groups[1].Sig = "" },
			func(o *api.Object) { o.Groups[1].Sig = "nobody's" },
			func(o *api.Object) { o.Groups[1].Members = []int{4} },
			func(o *api.Object) { o.Groups[1].Members = []int{-1} },
			func(o *api.Object) { o.Groups[1].Members = []int{0} },
			func(o *api.Object) { o.Groups[0].Members = []int{2, 1} },
		},
	}
	for want, l := range wrong {
		for i, change := range l {
			what := fmt.Sprintf("fault %d", i)
			mustNot(t, what, changed(change), want)
			long := changed(change)
			long.Sects[3].Data, long.Sects[3].Size = make([]byte, 1<<20), 1<<20
			mustNot(t, what+", too long", long, want)
			many := changed(change)
			many.Groups = append(many.Groups, slices.Repeat([]api.Group{{Sig: "f"}}, 400)...)
			mustNot(t, what+", too many headers", many, want)
		}
	}
	mustNot(t, "nothing", api.Object{}, api.ErrSym)
}

// ofSize: an object with so many sections of three bytes each, the last of n.
func ofSize(n int, sects int) api.Object {
	o := api.Object{Syms: []api.Sym{{}}}
	for i := range sects {
		data := bytes.Repeat([]byte{byte(i + 1)}, 3)
		if i == sects-1 {
			data = bytes.Repeat([]byte{0xa5}, n)
		}
		o.Sects = append(o.Sects, api.Sect{Name: "n", Align: 1, Size: uint64(len(data)), Data: data})
	}
	return o
}

// TestWriteLong: P16.1: files of just MaxFile bytes, and those with one byte more than has room.
func TestWriteLong(t *testing.T) {
	for _, sects := range []int{1, 2, 3, 50, 99, 100} {
		_, least := plainEnd(plainHeaders(ofSize(0, sects)))
		room := 1<<20 - int(least)
		for n := room - 20; n <= room+20; n++ {
			what := fmt.Sprintf("%d bytes and %d sections", n, sects)
			if n > room {
				mustNot(t, what, ofSize(n, sects), api.ErrHead)
				continue
			}
			mustWrite(t, what, ofSize(n, sects))
		}
	}
	// The head, symbols, their names, the sections' names, five headers: 64, 24, 8, 32, 320.
	const room = 1<<20 - 64 - 24 - 8 - 32 - 320
	for n, want := range map[int]api.Errno{room - 8: api.OK, room - 7: api.OK, room - 1: api.OK, room: api.OK, room + 1: api.ErrHead, room + 8: api.ErrHead, 1<<20 - 64: api.ErrHead, 1 << 20: api.ErrHead, 1<<20 + 1: api.ErrHead, 1 << 24: api.ErrHead} {
		o := ofSize(n, 1)
		if want != api.OK {
			mustNot(t, fmt.Sprintf("%d bytes", n), o, want)
			continue
		}
		b := mustWrite(t, fmt.Sprintf("%d bytes", n), o)
		if n > room-8 && len(b) != 1<<20 {
			t.Errorf("P16.1: %d bytes make a file of %d", n, len(b))
		}
	}
}

// TestWriteLongTables: P16.1: what fills a file up may be any of its parts: a symbol, a name, a relocation, a group, a member.
func TestWriteLongTables(t *testing.T) {
	base := func() api.Object {
		return changed(func(o *api.Object) {
			o.Sects = append(o.Sects, api.Sect{Name: "fill", Align: 1})
			_, size := plainEnd(plainHeaders(*o))
			s := &o.Sects[4]
			s.Size = 1<<20 - size
			s.Data = make([]byte, s.Size)
		})
	}
	full := mustWrite(t, "a full file", base())
	if len(full) != 1<<20 {
		t.Fatalf("P16.1: a full file has %d bytes", len(full))
	}
	for what, change := range map[string]func(o *api.Object){
		"a byte":           func(o *api.Object) { o.Sects[4].Data = append(o.Sects[4].Data, 0); o.Sects[4].Size++ },
		"a section":        func(o *api.Object) { o.Sects = append(o.Sects, api.Sect{Align: 1}) },
		"a zero":           func(o *api.Object) { o.Sects = append(o.Sects, api.Sect{Zero: true, Align: 1, Size: 1}) },
		"a section's name": func(o *api.Object) { o.Sects[1].Name = "twelve bytes" },
		"a symbol":         func(o *api.Object) { o.Syms = append(o.Syms, api.Sym{Name: "x", Bind: 1}) },
		"a symbol's name":  func(o *api.Object) { o.Syms[8].Name = "twelve bytes" },
		"a relocation":     func(o *api.Object) { o.Sects[0].Rels = append(o.Sects[0].Rels, api.Rela{}) },
		"relocations":      func(o *api.Object) { o.Sects[4].Rels = []api.Rela{{}} },
		"a group":          func(o *api.Object) { o.Groups = append(o.Groups, api.Group{Sig: "f"}) },
		"members":          func(o *api.Object) { o.Groups[1].Members = []int{3, 4} },
	} {
		o := base()
		change(&o)
		if e := obj.Check(o); e != api.OK {
			t.Fatalf("%s: %v", what, e)
		}
		mustNot(t, what+" more", o, api.ErrHead)
		o.Sects[4].Data = o.Sects[4].Data[:1<<18]
		o.Sects[4].Size = 1 << 18
		mustWrite(t, what+" more, and less bytes", o)
	}
	mustWrite(t, "more zeros", func() api.Object { o := base(); o.Sects[1].Size = api.MaxZero; return o }())
	mustWrite(t, "a name that stands there", func() api.Object { o := base(); o.Sects[4].Name = ".bss"; return o }())
}

// TestWriteHeads: P16.1: 400 headers, and 401, whatever they are of.
func TestWriteHeads(t *testing.T) {
	for _, c := range []struct{ sects, rels int }{{0, 0}, {1, 0}, {1, 1}, {50, 20}, {99, 99}, {100, 0}, {100, 1}, {100, 99}, {100, 100}} {
		for _, heads := range []int{399, 400, 401, 402, 1000, 70000} {
			o := api.Object{Syms: []api.Sym{{}, {Name: "g", Bind: 1}}}
			for i := range c.sects {
				s := api.Sect{Name: "s", Align: 1, Size: 8, Data: make([]byte, 8)}
				if i < c.rels {
					s.Rels = []api.Rela{{}}
				}
				o.Sects = append(o.Sects, s)
			}
			for i := range heads - 4 - c.sects - c.rels {
				g := api.Group{Sig: "g"}
				if i < c.sects {
					g.Members = []int{i}
				}
				o.Groups = append(o.Groups, g)
			}
			what := fmt.Sprintf("%d headers, %d sections, %d with relocations", heads, c.sects, c.rels)
			if heads > 400 {
				mustNot(t, what, o, api.ErrHead)
				continue
			}
			if b := mustWrite(t, what, o); binary.LittleEndian.Uint16(b[60:]) != uint16(heads) {
				t.Errorf("P16.1: %s: %d", what, binary.LittleEndian.Uint16(b[60:]))
			}
		}
	}
}

// TestWriteMost: P16.1, P16.2: as many sections, symbols, relocations, members, zeros, and as long names as there may be.
func TestWriteMost(t *testing.T) {
	o := api.Object{Syms: []api.Sym{{}}}
	for i := range 100 {
		s := api.Sect{Name: strings.Repeat("n", 193) + fmt.Sprintf("%02d", i), Flags: 0x33, Align: 4096, Size: 80, Data: bytes.Repeat([]byte{byte(i)}, 80), Rels: make([]api.Rela, 20)}
		for k := range s.Rels {
			s.Rels[k] = api.Rela{Off: uint64(k * 4), Type: math.MaxUint32, Sym: uint32(i*5 + k%5), Add: math.MinInt64 + int64(k)}
		}
		o.Sects = append(o.Sects, s)
	}
	for i := 1; i < 500; i++ {
		s := api.Sym{Name: strings.Repeat("s", 197) + fmt.Sprintf("%03d", i), Bind: i / 250, Type: i % 3, Sect: 1 + i%100, Value: 80, Size: math.MaxUint64}
		o.Syms = append(o.Syms, s)
	}
	o.Groups = []api.Group{{Sig: o.Syms[499].Name}}
	for i := range 100 {
		o.Groups[0].Members = append(o.Groups[0].Members, i)
	}
	mustWrite(t, "the most of everything", o)
	o.Sects[99] = api.Sect{Name: strings.Repeat("z", 200), Zero: true, Align: 1, Size: api.MaxZero}
	o.Groups[0].Members = o.Groups[0].Members[:99]
	for i := range 99 {
		o.Groups = append(o.Groups, api.Group{Sig: o.Syms[i+1].Name})
	}
	o.Groups[7].Members = []int{99}
	for i := range o.Syms {
		o.Syms[i].Value = 0
	}
	mustWrite(t, "many zeros", o)
}

// TestWriteSig: P16.1, P16.2: a group's symbol is one with its name, wherever such ones stand.
func TestWriteSig(t *testing.T) {
	for _, sig := range []string{"file.c", "here", "f", "x", "common", "e.c"} {
		mustWrite(t, sig, changed(func(o *api.Object) {
			o.Groups = []api.Group{{Sig: sig, Members: []int{2}}, {Sig: sig}, {Sig: sig, Members: []int{0, 1}}}
		}))
	}
	b := mustWrite(t, "several symbols with that name", usualObject())
	if got := binary.LittleEndian.Uint32(b[len(b)-4*64+44:]); got != 5 {
		t.Errorf("P16.1: the group's symbol is number %d, where the first with its name is 5", got)
	}
}

// TestWriteNames: P16.1, P16.2: names that are those of tables, that are alike, or that are any bytes.
func TestWriteNames(t *testing.T) {
	for _, name := range []string{"", ".symtab", ".strtab", ".shstrtab", ".rela", ".rela.text", ".group", "text", "é", "\xff\x01\n ", strings.Repeat("n", 195)} {
		for i := range 4 {
			mustWrite(t, fmt.Sprintf("section %d named %q", i, name), changed(func(o *api.Object) { o.Sects[i].Name = name }))
		}
		mustWrite(t, fmt.Sprintf("all named %q", name), changed(func(o *api.Object) {
			for i := range o.Sects {
				o.Sects[i].Name = name
			}
			for i := 1; i < len(o.Syms) && name != ""; i++ {
				o.Syms[i].Name = name
			}
			if name != "" {
				o.Groups = []api.Group{{Sig: name, Members: []int{0, 1, 2, 3}}}
			}
		}))
	}
}

// TestWriteGroups: P16.1, P16.2: each way to part four sections among two groups and none, with each set of them relocated.
func TestWriteGroups(t *testing.T) {
	for way := range 81 {
		for set := range 16 {
			o := api.Object{Syms: []api.Sym{{}, {Name: "a", Sect: 1}, {Name: "b", Bind: 1}}, Groups: []api.Group{{Sig: "b"}, {Sig: "a"}}}
			for i, rest := 0, way; i < 4; i, rest = i+1, rest/3 {
				s := api.Sect{Name: string(rune('p' + i)), Flags: 2, Align: 1, Size: 4, Data: []byte{1, 2, 3, byte(i)}}
				if set>>i&1 == 1 {
					s.Rels = []api.Rela{{Type: 1, Sym: 1, Add: int64(i)}}
				}
				o.Sects = append(o.Sects, s)
				if rest%3 < 2 {
					o.Groups[rest%3].Members = append(o.Groups[rest%3].Members, i)
				}
			}
			mustWrite(t, fmt.Sprintf("groups %v, relocated %b", o.Groups, set), o)
		}
	}
}

// anySym: a right symbol of an object with these sections.
func anySym(rnd *rand.Rand, local bool, sects []api.Sect) api.Sym {
	s := api.Sym{Name: []string{"", "a", "b", "main", "é", strings.Repeat("s", 200)}[rnd.Intn(6)], Type: rnd.Intn(3), Value: rnd.Uint64() >> rnd.Intn(64), Size: rnd.Uint64() >> rnd.Intn(64)}
	where := rnd.Intn(4)
	if !local {
		s.Bind = 1 + rnd.Intn(2)
		s.Name += "g"
		s.Name = s.Name[:min(len(s.Name), 200)]
	}
	switch {
	case len(sects) > 0 && where < 2:
		n := rnd.Intn(len(sects))
		s.Sect, s.Value = n+1, uint64(rnd.Int63n(int64(sects[n].Size)+1))
		if local && rnd.Intn(3) == 0 {
			s.Type = api.SymSection
		}
	case local || where == 2:
		s.Sect = api.Abs
		if local && rnd.Intn(3) == 0 {
			s.Type = api.SymFile
		}
	case rnd.Intn(2) == 0:
		s.Sect, s.Value, s.Size = api.Common, 1<<rnd.Intn(13), uint64(rnd.Intn(api.MaxZero+1))
	}
	return s
}

// anySect: a right section, its relocations set aside.
func anySect(rnd *rand.Rand) api.Sect {
	s := api.Sect{Name: []string{"", ".text", ".data.x", strings.Repeat("n", 195)}[rnd.Intn(4)], Flags: rnd.Uint64() & 0x37, Align: 1 << rnd.Intn(13)}
	if s.Flags&4 != 0 {
		s.Flags &^= 1
	}
	if rnd.Intn(4) == 0 {
		s.Zero, s.Size = true, uint64(rnd.Intn(1<<20))
		s.Flags &^= 4
		return s
	}
	s.Data = make([]byte, rnd.Intn(40))
	rnd.Read(s.Data)
	s.Size = uint64(len(s.Data))
	return s
}

// anyObject: a right object.
func anyObject(rnd *rand.Rand) api.Object {
	o := api.Object{Syms: []api.Sym{{}}}
	for range rnd.Intn(6) {
		o.Sects = append(o.Sects, anySect(rnd))
	}
	for range rnd.Intn(4) {
		o.Syms = append(o.Syms, anySym(rnd, true, o.Sects))
	}
	for range rnd.Intn(5) {
		o.Syms = append(o.Syms, anySym(rnd, false, o.Sects))
	}
	for i := range o.Sects {
		s := &o.Sects[i]
		if s.Size < 8 || s.Zero || rnd.Intn(2) == 0 {
			continue
		}
		for range rnd.Intn(4) {
			s.Rels = append(s.Rels, api.Rela{Off: uint64(rnd.Intn(int(s.Size) - 7)), Type: uint32(rnd.Intn(60)), Sym: uint32(rnd.Intn(len(o.Syms))), Add: rnd.Int63() - rnd.Int63()})
		}
	}
	sig := o.Syms[rnd.Intn(len(o.Syms))].Name
	if sig == "" {
		return o
	}
	o.Groups = make([]api.Group, rnd.Intn(4))
	for i := range o.Groups {
		o.Groups[i].Sig = sig
	}
	for i := range o.Sects {
		if g := rnd.Intn(5); g < len(o.Groups) {
			o.Groups[g].Members = append(o.Groups[g].Members, i)
		}
	}
	return o
}

// TestWriteAny: P16.1, P16.2: any objects; what was read is written as it was.
func TestWriteAny(t *testing.T) {
	rnd := rand.New(rand.NewSource(16))
	for range 10000 {
		o := anyObject(rnd)
		b := mustWrite(t, fmt.Sprintf("%+v", o), o)
		got, _ := obj.Read(b)
		again, e := Write(got)
		if e != api.OK || !bytes.Equal(again, b) {
			t.Fatalf("P16.2: %+v, written again: %v, % x, wanted % x", o, e, again, b)
		}
	}
}

// TestWriteElf: P16.1: a file is one of ELF, as another reader of these has it.
func TestWriteElf(t *testing.T) {
	rnd := rand.New(rand.NewSource(17))
	for range 2000 {
		o := anyObject(rnd)
		b, _ := Write(o)
		f, err := elf.NewFile(bytes.NewReader(b))
		if err != nil || f.Type != elf.ET_REL || f.Machine != elf.EM_RISCV {
			t.Fatalf("P16.1: %+v: %v", o, err)
		}
		for i, s := range o.Sects {
			got := f.Sections[i+1]
			if got.Name != s.Name || got.Size != s.Size || got.Addralign != s.Align || (got.Type == elf.SHT_NOBITS) != s.Zero {
				t.Fatalf("P16.1: section %d of %+v: %+v", i, o, got)
			}
			if s.Zero {
				continue
			}
			if data, err := got.Data(); err != nil || !bytes.Equal(data, s.Data) {
				t.Fatalf("P16.1: bytes of section %d of %+v: %v, %v", i, o, data, err)
			}
		}
		syms, err := f.Symbols()
		if err != nil || len(syms) != len(o.Syms)-1 {
			t.Fatalf("P16.1: %+v: %d symbols, %v", o, len(syms), err)
		}
		for i, s := range syms {
			w := o.Syms[i+1]
			if s.Name != w.Name || int(s.Info>>4) != w.Bind || int(s.Info&15) != w.Type || int(s.Section) != w.Sect || s.Value != w.Value || s.Size != w.Size {
				t.Fatalf("P16.1: symbol %d of %+v: %+v", i+1, o, s)
			}
		}
	}
}

// TestWriteGreat: P16.1: objects with far too much of everything: this ends in time.
func TestWriteGreat(t *testing.T) {
	great := make([]byte, 1<<26)
	mustNot(t, "a great section", api.Object{Syms: []api.Sym{{}}, Sects: []api.Sect{{Align: 1, Size: 1 << 26, Data: great}}}, api.ErrHead)
	mustNot(t, "great sections", api.Object{Syms: []api.Sym{{}}, Sects: slices.Repeat([]api.Sect{{Align: 1, Size: 1 << 26, Data: great}}, 100)}, api.ErrHead)
	mustNot(t, "far too many groups", changed(func(o *api.Object) { o.Groups = slices.Repeat([]api.Group{{Sig: "f"}}, 1<<20) }), api.ErrHead)
	mustNot(t, "far too many sections", api.Object{Sects: make([]api.Sect, 1<<18)}, api.ErrSect)
	mustNot(t, "far too many symbols", api.Object{Syms: make([]api.Sym, 1<<20)}, api.ErrSym)
	mustNot(t, "far too many relocations", changed(func(o *api.Object) { o.Sects[0].Rels = make([]api.Rela, 1<<20) }), api.ErrRela)
	mustNot(t, "far too many members", changed(func(o *api.Object) { o.Groups[1].Members = make([]int, 1<<20) }), api.ErrGroup)
}

// TestWriteOwnMemory: P16.1: an object isn't changed, nor the spare room behind its lists; a file shares no memory with it, nor with another file.
func TestWriteOwnMemory(t *testing.T) {
	o := usualObject()
	for i := range o.Sects {
		s := &o.Sects[i]
		s.Data = append(s.Data, "spare"...)
		s.Rels = append(s.Rels, api.Rela{Off: 1 << 40, Sym: 99})
	}
	o.Sects = append(o.Sects, api.Sect{Name: "spare"})
	o.Syms = append(o.Syms, api.Sym{Name: "spare", Bind: 7})
	for i := range o.Groups {
		o.Groups[i].Members = append(o.Groups[i].Members, 99)
	}
	o.Groups = append(o.Groups, api.Group{Sig: "spare"})
	old := copyOf(o)
	short := api.Object{Sects: slices.Clone(o.Sects[:4]), Syms: o.Syms[:9], Groups: slices.Clone(o.Groups[:3])}
	for i, s := range usualObject().Sects {
		short.Sects[i].Data = o.Sects[i].Data[:len(s.Data)]
		short.Sects[i].Rels = o.Sects[i].Rels[:len(s.Rels)]
	}
	for i, g := range usualObject().Groups {
		short.Groups[i].Members = o.Groups[i].Members[:len(g.Members)]
	}
	want := mustWrite(t, "with spare room", usualObject())
	first := mustWrite(t, "with spare room", short)
	second := mustWrite(t, "with spare room", short)
	if !bytes.Equal(first, want) || !bytes.Equal(second, want) {
		t.Fatalf("P16.1: the spare room is told")
	}
	if !same(o, old) {
		t.Fatalf("P16.1: the object was changed: %+v", o)
	}
	for i := range first {
		first[i] ^= 0xff
	}
	if !bytes.Equal(second, want) || !same(o, old) {
		t.Errorf("P16.1: a file shares memory with another, or with its object")
	}
	for i := range o.Sects {
		clear(o.Sects[i].Data)
		clear(o.Sects[i].Rels)
	}
	clear(o.Syms)
	if !bytes.Equal(second, want) {
		t.Errorf("P16.1: a file shares memory with its object")
	}
}
