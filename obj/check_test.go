package obj

import (
	"fmt"
	"math"
	"math/big"
	"math/rand"
	"slices"
	"strings"
	"testing"

	"dovetail/api"
	"dovetail/group"
	"dovetail/rela"
	"dovetail/strtab"
	"dovetail/symtab"
)

// plainName: whether a name has at most so many bytes, none of them a nought.
func plainName(name string, most int) bool {
	for _, c := range []byte(name) {
		if c == 0 {
			return false
		}
	}
	return len(name) <= most
}

// plainPower: whether a is a power of two up to Page.
func plainPower(a uint64) bool {
	for p := uint64(1); p <= 4096; p *= 2 {
		if a == p {
			return true
		}
	}
	return false
}

// plainCheckSects: P15.3's words about sections, with zeros that have no bounds.
func plainCheckSects(l []api.Sect) bool {
	zeros := new(big.Int)
	for _, s := range l {
		if !plainName(s.Name, 200) || len(s.Rels) > 0 && !plainName(s.Name, 195) {
			return false
		}
		for bit := range 64 {
			if s.Flags>>bit&1 == 1 && !slices.Contains([]int{0, 1, 2, 4, 5}, bit) {
				return false
			}
		}
		run, written := s.Flags&4 == 4, s.Flags&1 == 1
		if run && written || run && s.Zero || !plainPower(s.Align) {
			return false
		}
		if s.Zero && (len(s.Data) != 0 || len(s.Rels) != 0) || !s.Zero && s.Size != uint64(len(s.Data)) {
			return false
		}
		if s.Zero {
			zeros.Add(zeros, new(big.Int).SetUint64(s.Size))
		}
	}
	return len(l) <= 100 && zeros.Cmp(big.NewInt(1<<26)) <= 0
}

// plainCheckSyms: P15.3's words about symbols.
func plainCheckSyms(o api.Object) bool {
	if len(o.Syms) < 1 || len(o.Syms) > 500 || o.Syms[0] != (api.Sym{}) {
		return false
	}
	for i, s := range o.Syms[1:] {
		if !plainName(s.Name, 200) || s.Bind < 0 || s.Bind > 2 || s.Type < 0 || s.Type > 4 {
			return false
		}
		if s.Bind == 0 && o.Syms[i].Bind != 0 {
			return false
		}
		if s.Bind != 0 && (s.Name == "" || s.Type == 3 || s.Type == 4) {
			return false
		}
		content, room := s.Sect > 0 && s.Sect <= len(o.Sects), uint64(0)
		if content {
			room = o.Sects[s.Sect-1].Size
		}
		if !plainSym(s.Type, s.Bind, s.Sect, content, s.Value, s.Size, room) {
			return false
		}
	}
	return true
}

// plainCheck: P15.3's words, one by one.
func plainCheck(o api.Object) api.Errno {
	if !plainCheckSects(o.Sects) {
		return api.ErrSect
	}
	if !plainCheckSyms(o) {
		return api.ErrSym
	}
	rels := 0
	for _, s := range o.Sects {
		for _, r := range s.Rels {
			rels++
			end := new(big.Int).Add(new(big.Int).SetUint64(r.Off), big.NewInt(int64(rela.Width(r.Type))))
			if int64(r.Sym) >= int64(len(o.Syms)) || end.Cmp(new(big.Int).SetUint64(s.Size)) > 0 {
				return api.ErrRela
			}
		}
	}
	if rels > 2000 {
		return api.ErrRela
	}
	in := make([]int, len(o.Sects))
	for _, g := range o.Groups {
		if g.Sig == "" || !slices.ContainsFunc(o.Syms, func(s api.Sym) bool { return s.Name == g.Sig }) {
			return api.ErrGroup
		}
		for i, m := range g.Members {
			if m < 0 || m >= len(o.Sects) || i > 0 && m <= g.Members[i-1] {
				return api.ErrGroup
			}
			in[m]++
			if in[m] > 1 {
				return api.ErrGroup
			}
		}
	}
	return api.OK
}

// written: a file of o, as chapter 16 has it, as far as a file can tell what o is.
func written(o api.Object) []byte {
	var l []part
	grouped := make([]uint64, len(o.Sects))
	for _, g := range o.Groups {
		for _, m := range g.Members {
			if m >= 0 && m < len(grouped) {
				grouped[m] = api.ShfGroup
			}
		}
	}
	relaAt, relas := make([]int, len(o.Sects)), 0
	for i, s := range o.Sects {
		p := part{s.Name, api.Shdr{Type: api.ShtProgbits, Flags: s.Flags | grouped[i], Align: s.Align}, s.Data}
		if s.Zero {
			p.h.Type, p.h.Size = api.ShtNobits, s.Size
		}
		l = append(l, p)
		if len(s.Rels) > 0 {
			relaAt[i] = len(o.Sects) + 3 + relas
			relas++
		}
	}
	table := uint32(len(o.Sects) + 1)
	var names []string
	for _, s := range o.Syms {
		names = append(names, s.Name)
	}
	tab, at := strtab.Build(names...)
	var raws []api.Raw
	for i, s := range o.Syms {
		raws = append(raws, api.Raw{Name: at[i], Bind: s.Bind, Type: s.Type, Sect: s.Sect, Value: s.Value, Size: s.Size})
	}
	first := slices.IndexFunc(o.Syms, func(s api.Sym) bool { return s.Bind != 0 })
	if first < 0 {
		first = len(o.Syms)
	}
	l = append(l, part{".symtab", api.Shdr{Type: api.ShtSymtab, Link: table + 1, Info: uint32(first), Ent: 24}, symtab.Bytes(raws...)}, part{".strtab", api.Shdr{Type: api.ShtStrtab}, tab})
	for i, s := range o.Sects {
		if len(s.Rels) > 0 {
			l = append(l, part{".rela" + s.Name, api.Shdr{Type: api.ShtRela, Flags: api.ShfInfo | grouped[i], Link: table, Info: uint32(i + 1), Ent: 24}, rela.Bytes(s.Rels...)})
		}
	}
	for _, g := range o.Groups {
		var members, tables []int
		for _, m := range g.Members {
			members = append(members, m+1)
			if m >= 0 && m < len(relaAt) && relaAt[m] > 0 {
				tables = append(tables, relaAt[m])
			}
		}
		sig := slices.IndexFunc(o.Syms, func(s api.Sym) bool { return s.Name == g.Sig })
		l = append(l, part{".group", api.Shdr{Type: api.ShtGroup, Link: table, Info: uint32(sig), Ent: 4}, group.Bytes(append(members, tables...)...)})
	}
	return fileOf(l...)
}

// asked: that Check tells what P15.3's words say, and that error.
func asked(t *testing.T, what string, o api.Object, want api.Errno) {
	t.Helper()
	if got, plain := Check(o), plainCheck(o); got != want || plain != want {
		t.Errorf("P15.3: %s: %v, by the words %v, wanted %v", what, got, plain, want)
	}
}

// changed: usualObject, changed.
func changed(change func(o *api.Object)) api.Object {
	o := usualObject()
	change(&o)
	return o
}

// TestCheck: P15.3: objects such as Read tells.
func TestCheck(t *testing.T) {
	asked(t, "the usual one", usualObject(), api.OK)
	asked(t, "the empty symbol alone", api.Object{Syms: []api.Sym{{}}}, api.OK)
	asked(t, "lists that are empty", api.Object{Sects: []api.Sect{}, Syms: []api.Sym{{}}, Groups: []api.Group{}}, api.OK)
	asked(t, "nothing", api.Object{}, api.ErrSym)
	asked(t, "an empty section", api.Object{Sects: []api.Sect{{Align: 1, Data: []byte{}, Rels: []api.Rela{}}}, Syms: []api.Sym{{}}}, api.OK)
}

// TestCheckNames: P15.3: names of sections and symbols: MaxName bytes, none of them a nought; a section with relocations has five less.
func TestCheckNames(t *testing.T) {
	for n, want := range map[int][2]bool{0: {true, true}, 1: {true, true}, 194: {true, true}, 195: {true, true}, 196: {true, false}, 199: {true, false}, 200: {true, false}, 201: {false, false}, 256: {false, false}, 1000: {false, false}} {
		name := strings.Repeat("n", n)
		for i, rels := range []int{1, 0, 1} {
			asked(t, "a section's name", changed(func(o *api.Object) { o.Sects[i].Name = name }), okOr(want[rels], api.ErrSect))
		}
		asked(t, "a name, its relocations gone", changed(func(o *api.Object) { o.Sects[0].Name, o.Sects[0].Rels = name, nil }), okOr(want[0], api.ErrSect))
		for i := 1; i < 9; i++ {
			if i == 4 || n == 0 && i > 4 {
				continue
			}
			asked(t, "a symbol's name", changed(func(o *api.Object) { o.Syms[i].Name = name }), okOr(want[0], api.ErrSym))
		}
	}
	for name, want := range map[string]bool{"\x00": false, "a\x00": false, "\x00a": false, "a\x00b": false, strings.Repeat("n", 199) + "\x00": false, "\xff\xfe \n\x01": true, "é": true, ".": true} {
		for i := range 3 {
			asked(t, "bytes of a section's name", changed(func(o *api.Object) { o.Sects[i].Name = name }), okOr(want, api.ErrSect))
		}
		for i := 1; i < 9; i++ {
			asked(t, "bytes of a symbol's name", changed(func(o *api.Object) {
				o.Syms[i].Name = name
				o.Groups = nil
			}), okOr(want, api.ErrSym))
		}
		asked(t, "the first symbol's name", changed(func(o *api.Object) { o.Syms[0].Name = name }), api.ErrSym)
	}
}

// TestCheckLongNames: P15.3: what has a long name and relocations can be read, but Check refuses it, since its relocations' name would be too long.
func TestCheckLongNames(t *testing.T) {
	for n, want := range map[int]api.Errno{195: api.OK, 196: api.ErrSect, 200: api.ErrSect} {
		o, e := Read(turned(data, func(p *part) { p.name = strings.Repeat("n", n) }))
		if e != api.OK {
			t.Fatalf("P15.1: a name of %d bytes: %v", n, e)
		}
		asked(t, "a long name that was read", o, want)
	}
}

// TestCheckFlags: P15.3: each flag, and all of P15.2's together; none of the others.
func TestCheckFlags(t *testing.T) {
	for bit := range 64 {
		known := slices.Contains([]int{0, 1, 2, 4, 5}, bit)
		for i := range 3 {
			want := known && (i != 1 || bit != 2)
			asked(t, fmt.Sprintf("flag %d", bit), changed(func(o *api.Object) { o.Sects[i].Flags = 1 << bit }), okOr(want, api.ErrSect))
		}
	}
	for set := range uint64(0x40) {
		for i := range 3 {
			want := set&8 == 0 && set&5 != 5 && (i != 1 || set&4 == 0)
			asked(t, fmt.Sprintf("flags %x", set), changed(func(o *api.Object) { o.Sects[i].Flags = set }), okOr(want, api.ErrSect))
		}
	}
}

// TestCheckAlign: P15.3: an alignment is a power of two up to Page; 0 isn't.
func TestCheckAlign(t *testing.T) {
	for i := range 64 {
		for _, a := range []uint64{1<<i - 1, 1 << i, 1<<i + 1, uint64(i)} {
			for n := range 3 {
				asked(t, fmt.Sprintf("alignment %d", a), changed(func(o *api.Object) { o.Sects[n].Align = a }), okOr(plainPower(a), api.ErrSect))
			}
		}
	}
	asked(t, "alignment 0", changed(func(o *api.Object) { o.Sects[0].Align = 0 }), api.ErrSect)
	asked(t, "alignment Page", changed(func(o *api.Object) { o.Sects[0].Align = 4096 }), api.OK)
	asked(t, "alignment of two pages", changed(func(o *api.Object) { o.Sects[0].Align = 8192 }), api.ErrSect)
}

// TestCheckSize: P15.3: a size is that of the bytes; zeros have none, and no relocations.
func TestCheckSize(t *testing.T) {
	for _, size := range []uint64{0, 1, 15, 17, 272, 1<<32 + 16, 1<<63 + 16, math.MaxUint64} {
		asked(t, "a size", changed(func(o *api.Object) { o.Sects[0].Size = size }), api.ErrSect)
	}
	asked(t, "a byte more", changed(func(o *api.Object) { o.Sects[0].Data = append(o.Sects[0].Data, 0) }), api.ErrSect)
	asked(t, "a byte less", changed(func(o *api.Object) { o.Sects[2].Data = o.Sects[2].Data[:11] }), api.ErrSect)
	asked(t, "no bytes", changed(func(o *api.Object) { o.Sects[2].Data = nil }), api.ErrSect)
	asked(t, "zeros with bytes", changed(func(o *api.Object) { o.Sects[1].Data = make([]byte, 100) }), api.ErrSect)
	asked(t, "zeros with a byte", changed(func(o *api.Object) { o.Sects[1].Data = make([]byte, 1) }), api.ErrSect)
	asked(t, "zeros with none, but room", changed(func(o *api.Object) { o.Sects[1].Data = make([]byte, 0, 9) }), api.OK)
	asked(t, "zeros with relocations", changed(func(o *api.Object) { o.Sects[1].Rels = []api.Rela{{}} }), api.ErrSect)
	asked(t, "zeros with wrong relocations", changed(func(o *api.Object) { o.Sects[1].Rels = []api.Rela{{Off: 1000}} }), api.ErrSect)
	asked(t, "no zeros", changed(func(o *api.Object) { o.Sects[1].Zero = false }), api.ErrSect)
	asked(t, "bytes that are said to be zeros", changed(func(o *api.Object) { o.Sects[2].Zero = true }), api.ErrSect)
}

// TestCheckZeros: P15.3: zeros together are MaxZero at most, whatever their sum would wrap to.
func TestCheckZeros(t *testing.T) {
	for _, c := range []struct {
		sizes []uint64
		want  bool
	}{
		{[]uint64{api.MaxZero}, true},
		{[]uint64{api.MaxZero + 1}, false},
		{[]uint64{1, api.MaxZero - 1, 0}, true},
		{[]uint64{1, api.MaxZero}, false},
		{[]uint64{math.MaxUint64, 1}, false},
		{[]uint64{1, math.MaxUint64}, false},
		{[]uint64{1 << 63, 1 << 63}, false},
		{[]uint64{api.MaxZero, math.MaxUint64}, false},
		{slices.Repeat([]uint64{api.MaxZero / 64}, 64), true},
		{append(slices.Repeat([]uint64{api.MaxZero / 64}, 64), 1), false},
		{slices.Repeat([]uint64{1 << 60}, 16), false},
	} {
		o := api.Object{Syms: []api.Sym{{}}}
		for _, size := range c.sizes {
			o.Sects = append(o.Sects, api.Sect{Zero: true, Align: 1, Size: size})
		}
		asked(t, fmt.Sprintf("zeros %d", c.sizes), o, okOr(c.want, api.ErrSect))
	}
	asked(t, "many bytes aren't zeros", changed(func(o *api.Object) {
		o.Sects[0].Data, o.Sects[0].Size = make([]byte, api.MaxZero+1), api.MaxZero+1
	}), api.OK)
}

// TestCheckMany: P15.3: MaxSects sections, MaxSyms symbols, MaxRels relocations in all, and one more of each.
func TestCheckMany(t *testing.T) {
	for n, want := range map[int]bool{0: true, 1: true, 99: true, 100: true, 101: false, 256: false, 1000: false} {
		asked(t, "many sections", api.Object{Sects: slices.Repeat([]api.Sect{{Align: 1}}, n), Syms: []api.Sym{{}}}, okOr(want, api.ErrSect))
	}
	for n, want := range map[int]bool{1: true, 2: true, 499: true, 500: true, 501: false, 756: false, 65537: false} {
		locals := append([]api.Sym{{}}, slices.Repeat([]api.Sym{{Sect: api.Abs}}, n-1)...)
		globals := append([]api.Sym{{}}, slices.Repeat([]api.Sym{{Name: "g", Bind: 1}}, n-1)...)
		asked(t, "many local symbols", api.Object{Syms: locals}, okOr(want, api.ErrSym))
		asked(t, "many global symbols", api.Object{Syms: globals}, okOr(want, api.ErrSym))
	}
	for n, want := range map[[2]int]bool{{2000, 0}: true, {0, 2000}: true, {1000, 1000}: true, {2001, 0}: false, {0, 2001}: false, {1000, 1001}: false, {2000, 1}: false, {2000, 2000}: false, {1 << 20, 0}: false} {
		asked(t, "many relocations", changed(func(o *api.Object) {
			o.Sects[0].Rels, o.Sects[2].Rels = make([]api.Rela, n[0]), make([]api.Rela, n[1])
		}), okOr(want, api.ErrRela))
	}
}

// TestCheckFirstSym: P15.3: the first symbol is empty.
func TestCheckFirstSym(t *testing.T) {
	for _, s := range []api.Sym{{Name: "x"}, {Bind: 1}, {Bind: 2}, {Bind: 16}, {Type: 1}, {Type: 16}, {Sect: 1}, {Sect: api.Abs}, {Sect: 1 << 16}, {Value: 1}, {Value: 1 << 63}, {Size: 1}, usualObject().Syms[3], usualObject().Syms[4]} {
		asked(t, "a first symbol", changed(func(o *api.Object) { o.Syms[0] = s }), api.ErrSym)
		asked(t, "a first symbol alone", api.Object{Sects: usualObject().Sects[1:2], Syms: []api.Sym{s}}, api.ErrSym)
	}
	asked(t, "no first symbol", changed(func(o *api.Object) { o.Syms = o.Syms[1:] }), api.ErrSym)
}

// numbers: those that a field of four, eight or sixteen bits has, and those that look like them by their lowest bits.
var numbers = []int{0, 1, 2, 3, 4, 5, 6, 15, 16, 17, 18, 19, 20, 255, 256, 257, 0xfff0, 0xfff1, 0xfff2, 0xfff3, 0xffff, 0x10000, 0x10001, 0x10002, 0x1fff1, 0x1fff2, 1 << 32, 1<<32 + 1, 1<<32 + 0xfff1, 1 << 62, math.MaxInt, -1, -2, -3, -14, -15, -16, -0xf, -0x10000, -0xffff, -0xffff + 1, math.MinInt, math.MinInt + 1}

// TestCheckSymNumbers: P15.3: bindings, types and sections of symbols, any numbers.
func TestCheckSymNumbers(t *testing.T) {
	for _, n := range numbers {
		for i := 1; i < 9; i++ {
			bind, kind, sect := usualObject(), usualObject(), usualObject()
			bind.Syms[i].Bind, kind.Syms[i].Type, sect.Syms[i].Sect = n, n, n
			for field, o := range []api.Object{bind, kind, sect} {
				if got, want := Check(o), plainCheck(o); got != want || got != api.OK && got != api.ErrSym {
					t.Errorf("P15.3: field %d of symbol %d is %d: %v, wanted %v", field, i, n, got, want)
				}
			}
		}
	}
	for _, c := range []struct {
		s    api.Sym
		want bool
	}{
		{api.Sym{Name: "x", Bind: 1}, true},
		{api.Sym{Name: "x", Bind: 2}, true},
		{api.Sym{Name: "x", Bind: 3}, false},
		{api.Sym{Name: "x", Bind: -1}, false},
		{api.Sym{Name: "x", Bind: 17}, false},
		{api.Sym{Name: "x", Bind: 1, Type: 2}, true},
		{api.Sym{Name: "x", Bind: 1, Type: 3, Sect: 1}, false},
		{api.Sym{Name: "x", Bind: 1, Type: 4, Sect: api.Abs}, false},
		{api.Sym{Name: "x", Bind: 1, Type: 16}, false},
		{api.Sym{Name: "", Bind: 1}, false},
		{api.Sym{Name: "", Bind: 2, Sect: 1}, false},
		{api.Sym{Name: "x", Bind: 1, Sect: 3}, true},
		{api.Sym{Name: "x", Bind: 1, Sect: 4}, false},
		{api.Sym{Name: "x", Bind: 1, Sect: -1}, false},
		{api.Sym{Name: "x", Bind: 1, Sect: 1 << 16}, false},
		{api.Sym{Name: "x", Bind: 1, Sect: 1<<16 + 1}, false},
		{api.Sym{Name: "x", Bind: 1, Sect: api.Abs, Value: math.MaxUint64, Size: math.MaxUint64}, true},
		{api.Sym{Name: "x", Bind: 1, Value: math.MaxUint64, Size: math.MaxUint64}, true},
		{api.Sym{Name: "x", Bind: 1, Sect: 1, Value: 16, Size: math.MaxUint64}, true},
		{api.Sym{Name: "x", Bind: 1, Sect: 1, Value: 17}, false},
		{api.Sym{Name: "x", Bind: 1, Sect: 2, Value: 100}, true},
		{api.Sym{Name: "x", Bind: 1, Sect: 2, Value: 101}, false},
		{api.Sym{Name: "x", Bind: 2, Sect: api.Common, Value: 4096, Size: api.MaxZero}, true},
		{api.Sym{Name: "x", Bind: 1, Sect: api.Common, Value: 4096, Size: api.MaxZero + 1}, false},
		{api.Sym{Name: "x", Bind: 1, Sect: api.Common, Value: 8192}, false},
		{api.Sym{Name: "x", Bind: 1, Sect: api.Common, Value: 0}, false},
		{api.Sym{Name: "x", Bind: 1, Sect: api.Common, Value: 3}, false},
		{api.Sym{Name: "x", Sect: 1}, false}, // a local one behind others
	} {
		asked(t, fmt.Sprintf("a symbol %+v", c.s), changed(func(o *api.Object) { o.Syms = append(o.Syms, c.s) }), okOr(c.want, api.ErrSym))
	}
}

// TestCheckLocal: P15.3: local symbols: ahead of all others, in a section or absolute, with or without a name.
func TestCheckLocal(t *testing.T) {
	for _, c := range []struct {
		s    api.Sym
		want bool
	}{
		{api.Sym{Sect: 1, Value: 16}, true},
		{api.Sym{Sect: 1, Value: 17}, false},
		{api.Sym{Name: "here", Sect: 3}, true},
		{api.Sym{Sect: api.Abs, Value: math.MaxUint64}, true},
		{api.Sym{Name: "x"}, false},
		{api.Sym{}, false},
		{api.Sym{Name: "x", Sect: api.Common, Value: 1}, false},
		{api.Sym{Sect: 4}, false},
		{api.Sym{Type: 3, Sect: 2, Value: 100}, true},
		{api.Sym{Type: 3, Sect: 2, Value: 101}, false},
		{api.Sym{Type: 3, Sect: api.Abs}, false},
		{api.Sym{Type: 3}, false},
		{api.Sym{Type: 3, Sect: api.Common, Value: 1}, false},
		{api.Sym{Type: 4, Sect: api.Abs}, true},
		{api.Sym{Type: 4, Sect: 1}, false},
		{api.Sym{Type: 4}, false},
		{api.Sym{Type: 4, Sect: api.Common, Value: 1}, false},
		{api.Sym{Type: 5, Sect: 1}, false},
		{api.Sym{Type: -1, Sect: 1}, false},
		{api.Sym{Name: "g", Bind: 1}, false}, // others behind are local
	} {
		for at := 1; at <= 3; at++ {
			asked(t, fmt.Sprintf("a local symbol %+v", c.s), changed(func(o *api.Object) { o.Syms = slices.Insert(o.Syms, at, c.s) }), okOr(c.want, api.ErrSym))
		}
		want := c.want || c.s.Bind != 0
		asked(t, fmt.Sprintf("the last local symbol %+v", c.s), changed(func(o *api.Object) { o.Syms = slices.Insert(o.Syms, 4, c.s) }), okOr(want, api.ErrSym))
	}
}

// TestCheckRels: P15.3: relocations within their section, of symbols that there are; types aren't asked.
func TestCheckRels(t *testing.T) {
	for i, size := range map[int]uint64{0: 16, 2: 12} {
		for _, kind := range []uint32{0, api.R32, api.R64, api.RCallPlt, api.RRelax, 99, math.MaxUint32} {
			width := uint64(rela.Width(kind))
			for _, off := range []uint64{0, 3, 4, 5, 8, 9, 12, 13, 16, 17, 1 << 32, 1 << 63, math.MaxUint64 - 3, math.MaxUint64} {
				want := off <= size && off+width <= size
				asked(t, "an offset", changed(func(o *api.Object) {
					o.Sects[i].Rels = append(o.Sects[i].Rels, api.Rela{Off: off, Type: kind, Add: math.MinInt64})
				}), okOr(want, api.ErrRela))
			}
		}
		for _, sym := range []uint32{0, 1, 8, 9, 256, 1 << 31, math.MaxUint32} {
			asked(t, "a symbol", changed(func(o *api.Object) { o.Sects[i].Rels[0].Sym = sym }), okOr(sym < 9, api.ErrRela))
		}
	}
}

// TestCheckGroups: P15.3: signs are symbols' names, members rise from 0 on, and are in one group alone.
func TestCheckGroups(t *testing.T) {
	for sig, want := range map[string]bool{"f": true, "x": true, "here": true, "file.c": true, "e.c": true, "": false, "no": false, "f\x00": false, "F": false, ".text": false} {
		asked(t, fmt.Sprintf("the sign %q", sig), changed(func(o *api.Object) { o.Groups[0].Sig = sig }), okOr(want, api.ErrGroup))
		asked(t, fmt.Sprintf("the sign %q of none", sig), changed(func(o *api.Object) { o.Groups = append(o.Groups, api.Group{Sig: sig}) }), okOr(want, api.ErrGroup))
	}
	for _, c := range []struct {
		l    [][]int
		want bool
	}{
		{nil, true},
		{[][]int{nil}, true},
		{[][]int{{}, nil, {}}, true},
		{[][]int{{0, 1, 2}}, true},
		{[][]int{{2}, {1}, {0}}, true},
		{[][]int{{0, 2}, {1}}, true},
		{[][]int{{2, 1}}, false},
		{[][]int{{1, 1}}, false},
		{[][]int{{0, 0}}, false},
		{[][]int{{0, 2, 1}}, false},
		{[][]int{{3}}, false},
		{[][]int{{0, 1, 2, 3}}, false},
		{[][]int{{-1}}, false},
		{[][]int{{-1, 0}}, false},
		{[][]int{{math.MinInt}}, false},
		{[][]int{{math.MaxInt}}, false},
		{[][]int{{1 << 32}}, false},
		{[][]int{{0, 1<<32 + 1}}, false},
		{[][]int{{0}, {0}}, false},
		{[][]int{{0, 1}, {}, {1, 2}}, false},
		{[][]int{{0}, {3}}, false},
	} {
		asked(t, fmt.Sprintf("groups %d", c.l), changed(func(o *api.Object) {
			o.Groups = nil
			for _, members := range c.l {
				o.Groups = append(o.Groups, api.Group{Sig: "f", Members: members})
			}
		}), okOr(c.want, api.ErrGroup))
	}
}

// objectFaults: changes of an object, and the error of each; inFile says whether a file would have the fault, too, or can't (its rooms are too small for it, or it says the same otherwise).
var objectFaults = []struct {
	e      api.Errno
	inFile bool
	wrong  func(o *api.Object, i int)
}{
	{api.ErrSect, true, func(o *api.Object, i int) { sectOfFault(o, i).Align = 3 }},
	{api.ErrSect, true, func(o *api.Object, i int) { sectOfFault(o, i).Flags |= 5 }},
	{api.ErrSect, true, func(o *api.Object, i int) { sectOfFault(o, i).Flags |= 1 << 11 }},
	{api.ErrSect, true, func(o *api.Object, i int) { sectOfFault(o, i).Name = strings.Repeat("n", 201) }},
	{api.ErrSect, true, func(o *api.Object, i int) {
		o.Sects = append(o.Sects, api.Sect{Zero: true, Align: 1, Size: api.MaxZero}, api.Sect{Zero: true, Align: 1, Size: 1})
	}},
	{api.ErrSect, false, func(o *api.Object, i int) { sectOfFault(o, i).Flags |= api.ShfInfo }},
	{api.ErrSect, false, func(o *api.Object, i int) { sectOfFault(o, i).Align = 0 }},
	{api.ErrSect, false, func(o *api.Object, i int) { sectOfFault(o, i).Name = "a\x00" }},
	{api.ErrSect, false, func(o *api.Object, i int) { s := sectOfFault(o, i); s.Zero, s.Size, s.Data = false, 3, nil }},
	{api.ErrSym, true, func(o *api.Object, i int) { symOfFault(o, i).Type = 5 }},
	{api.ErrSym, true, func(o *api.Object, i int) { symOfFault(o, i).Sect = 0xff00 }},
	{api.ErrSym, true, func(o *api.Object, i int) { symOfFault(o, i).Bind = 3 }},
	{api.ErrSym, true, func(o *api.Object, i int) { symOfFault(o, i).Name = strings.Repeat("n", 201) }},
	{api.ErrSym, true, func(o *api.Object, i int) { o.Syms[0].Size = uint64(i + 1) }},
	{api.ErrSym, false, func(o *api.Object, i int) { symOfFault(o, i).Bind += 16 }},
	{api.ErrSym, false, func(o *api.Object, i int) { symOfFault(o, i).Type -= 16 }},
	{api.ErrSym, false, func(o *api.Object, i int) { symOfFault(o, i).Sect += 1 << 16 }},
	{api.ErrSym, false, func(o *api.Object, i int) { symOfFault(o, i).Name += "\x00" }},
	{api.ErrRela, true, func(o *api.Object, i int) {
		o.Sects = append(o.Sects, api.Sect{Align: 1, Size: 4, Data: make([]byte, 4), Rels: []api.Rela{{Off: 1}}})
	}},
	{api.ErrRela, true, func(o *api.Object, i int) {
		o.Sects = append(o.Sects, api.Sect{Align: 1, Size: 4, Data: make([]byte, 4), Rels: []api.Rela{{Sym: uint32(len(o.Syms) + i)}}})
	}},
	{api.ErrRela, true, func(o *api.Object, i int) {
		o.Sects = append(o.Sects, api.Sect{Align: 1, Size: 4, Data: make([]byte, 4), Rels: make([]api.Rela, 2001)})
	}},
	{api.ErrGroup, true, func(o *api.Object, i int) { o.Groups = append(o.Groups, api.Group{Sig: "nobody's"}) }},
	{api.ErrGroup, true, func(o *api.Object, i int) {
		o.Groups = append(o.Groups, api.Group{Sig: o.Syms[0].Name})
	}},
	{api.ErrGroup, true, func(o *api.Object, i int) {
		o.Groups = append(o.Groups, api.Group{Sig: o.Syms[len(o.Syms)-1].Name, Members: []int{len(o.Sects) + i}})
	}},
}

// sectOfFault: section number i of o, or another one; there is one.
func sectOfFault(o *api.Object, i int) *api.Sect {
	if len(o.Sects) == 0 {
		o.Sects = append(o.Sects, api.Sect{Align: 1})
	}
	return &o.Sects[i%len(o.Sects)]
}

// symOfFault: symbol number i of o, or another one, but not the first; there is one.
func symOfFault(o *api.Object, i int) *api.Sym {
	if len(o.Syms) == 1 {
		o.Syms = append(o.Syms, api.Sym{Name: "one", Bind: 1})
	}
	return &o.Syms[1+i%(len(o.Syms)-1)]
}

// TestCheckFirstError: P15.3: of several errors the first part's is told.
func TestCheckFirstError(t *testing.T) {
	for x, first := range objectFaults {
		for y, second := range objectFaults {
			for i := range 3 {
				o := usualObject()
				first.wrong(&o, i)
				second.wrong(&o, i+1)
				if x == y {
					o = usualObject()
					first.wrong(&o, i)
				}
				// Two changes may undo each other, but they can't be better than the words say.
				if got, want := Check(o), plainCheck(o); got != want || x == y && got != first.e {
					t.Errorf("P15.3: faults %d and %d: %v, wanted %v", x, y, got, want)
				}
			}
		}
	}
}

// anySym: a right symbol of an object with these sections.
func anySym(rnd *rand.Rand, local bool, sects []api.Sect) api.Sym {
	s := api.Sym{Name: []string{"", "a", "b", "main", "é", strings.Repeat("s", 200)}[rnd.Intn(6)], Type: rnd.Intn(3), Value: rnd.Uint64() >> rnd.Intn(64), Size: rnd.Uint64() >> rnd.Intn(64)}
	where := rnd.Intn(4)
	if !local {
		s.Bind = 1 + rnd.Intn(2)
		s.Name += "g"
		s.Name = s.Name[:min(len(s.Name), 200)]
	}
	switch {
	case len(sects) > 0 && where < 2:
		n := rnd.Intn(len(sects))
		s.Sect, s.Value = n+1, uint64(rnd.Int63n(int64(sects[n].Size)+1))
		if local && rnd.Intn(3) == 0 {
			s.Type = api.SymSection
		}
	case local || where == 2:
		s.Sect = api.Abs
		if local && rnd.Intn(3) == 0 {
			s.Type = api.SymFile
		}
	case rnd.Intn(2) == 0:
		s.Sect, s.Value, s.Size = api.Common, 1<<rnd.Intn(13), uint64(rnd.Intn(api.MaxZero+1))
	}
	return s
}

// anySect: a right section, its relocations set aside.
func anySect(rnd *rand.Rand) api.Sect {
	s := api.Sect{Name: []string{"", ".text", ".data.x", strings.Repeat("n", 195)}[rnd.Intn(4)], Flags: rnd.Uint64() & 0x37, Align: 1 << rnd.Intn(13)}
	if s.Flags&4 != 0 {
		s.Flags &^= 1
	}
	if rnd.Intn(4) == 0 {
		s.Zero, s.Size = true, uint64(rnd.Intn(1<<20))
		s.Flags &^= 4
		return s
	}
	s.Data = make([]byte, rnd.Intn(40))
	rnd.Read(s.Data)
	s.Size = uint64(len(s.Data))
	return s
}

// anyObject: a right object.
func anyObject(rnd *rand.Rand) api.Object {
	o := api.Object{Syms: []api.Sym{{}}}
	for range rnd.Intn(6) {
		o.Sects = append(o.Sects, anySect(rnd))
	}
	for range rnd.Intn(4) {
		o.Syms = append(o.Syms, anySym(rnd, true, o.Sects))
	}
	for range rnd.Intn(5) {
		o.Syms = append(o.Syms, anySym(rnd, false, o.Sects))
	}
	for i := range o.Sects {
		s := &o.Sects[i]
		if s.Size < 8 || s.Zero || rnd.Intn(2) == 0 {
			continue
		}
		for range rnd.Intn(4) {
			s.Rels = append(s.Rels, api.Rela{Off: uint64(rnd.Intn(int(s.Size) - 7)), Type: uint32(rnd.Intn(60)), Sym: uint32(rnd.Intn(len(o.Syms))), Add: rnd.Int63() - rnd.Int63()})
		}
	}
	sig := o.Syms[rnd.Intn(len(o.Syms))].Name
	if sig == "" {
		return o
	}
	o.Groups = make([]api.Group, rnd.Intn(4))
	for i := range o.Groups {
		o.Groups[i].Sig = sig
	}
	for i := range o.Sects {
		if g := rnd.Intn(5); g < len(o.Groups) {
			o.Groups[g].Members = append(o.Groups[g].Members, i)
		}
	}
	return o
}

// TestCheckAny: P15.3: any objects, right ones and those with faults: the error is that of the chapter's words, and the one that Read tells of a file of them, where a file can tell it.
func TestCheckAny(t *testing.T) {
	rnd := rand.New(rand.NewSource(53))
	seen := map[api.Errno]int{}
	for range 20000 {
		o := anyObject(rnd)
		inFile := true
		for range rnd.Intn(3) {
			fault := objectFaults[rnd.Intn(len(objectFaults))]
			fault.wrong(&o, rnd.Intn(5))
			inFile = inFile && fault.inFile
		}
		got, want := Check(o), plainCheck(o)
		if got != want {
			t.Fatalf("P15.3: %+v: %v, wanted %v", o, got, want)
		}
		seen[got]++
		if _, e := Read(written(o)); inFile && e != got {
			t.Fatalf("P15.3: %+v: %v, but its file: %v", o, got, e)
		}
	}
	for _, e := range []api.Errno{api.OK, api.ErrSect, api.ErrSym, api.ErrRela, api.ErrGroup} {
		if seen[e] < 500 {
			t.Errorf("P15.3: %v was told %d times", e, seen[e])
		}
	}
}

// TestBackAgain: P15.2, P15.3: an object that Check takes is read from its file as it was.
func TestBackAgain(t *testing.T) {
	rnd := rand.New(rand.NewSource(54))
	for range 10000 {
		want := anyObject(rnd)
		if e := Check(want); e != api.OK {
			t.Fatalf("P15.3: %+v: %v", want, e)
		}
		got, e := Read(written(want))
		if !same(got, want) || e != api.OK {
			t.Fatalf("P15.2: %+v, %v, wanted %+v", got, e, want)
		}
		sound(t, got)
	}
}

// TestCheckGreat: P15.3: objects with far too much of everything: this ends in time.
func TestCheckGreat(t *testing.T) {
	const many = 1 << 18
	long := strings.Repeat("n", 1<<24)
	var syms []api.Sym
	for i := range 500 {
		syms = append(syms, api.Sym{Name: long[i:], Bind: min(i, 1)})
	}
	asked(t, "great names", api.Object{Syms: syms[:2]}, api.ErrSym)
	if e := Check(api.Object{Syms: append([]api.Sym{{}}, syms[1:]...)}); e != api.ErrSym {
		t.Errorf("P15.3: many great names: %v", e)
	}
	if e := Check(api.Object{Syms: append([]api.Sym{{}}, slices.Repeat([]api.Sym{{Name: "x", Bind: 1}}, 1<<20)...)}); e != api.ErrSym {
		t.Errorf("P15.3: far too many symbols: %v", e)
	}
	if e := Check(api.Object{Sects: make([]api.Sect, many)}); e != api.ErrSect {
		t.Errorf("P15.3: far too many sections: %v", e)
	}
	if e := Check(changed(func(o *api.Object) { o.Sects[0].Rels = make([]api.Rela, 1<<21) })); e != api.ErrRela {
		t.Errorf("P15.3: far too many relocations: %v", e)
	}
	last := slices.Repeat([]api.Sym{{Name: "x", Bind: 1}}, 499)
	last[498].Name = "last"
	o := api.Object{Syms: append([]api.Sym{{}}, last...), Groups: slices.Repeat([]api.Group{{Sig: "last"}}, many)}
	if e := Check(o); e != api.OK {
		t.Errorf("P15.3: many groups: %v", e)
	}
	o.Groups = append(o.Groups, api.Group{Sig: "l"})
	if e := Check(o); e != api.ErrGroup {
		t.Errorf("P15.3: many groups, the last without a symbol: %v", e)
	}
	if e := Check(changed(func(o *api.Object) { o.Groups[0].Members = make([]int, 1<<21) })); e != api.ErrGroup {
		t.Errorf("P15.3: far too many members: %v", e)
	}
}

// TestCheckOwnMemory: P15.3: an object isn't changed, nor the spare room behind its lists.
func TestCheckOwnMemory(t *testing.T) {
	o := usualObject()
	o.Sects = append(o.Sects, api.Sect{Name: "spare"})
	o.Syms = append(o.Syms, api.Sym{Name: "spare", Bind: 7})
	o.Groups = append(o.Groups, api.Group{Sig: "spare", Members: []int{0}})
	o.Groups[0].Members = append(o.Groups[0].Members, 99)
	old := copyOf(o)
	groups := []api.Group{{Sig: "f", Members: o.Groups[0].Members[:1]}}
	for range 2 {
		asked(t, "with spare room", api.Object{Sects: o.Sects[:3], Syms: o.Syms[:9], Groups: groups}, api.OK)
		if !same(o, old) {
			t.Fatalf("P15.3: the object was changed: %+v", o)
		}
	}
	asked(t, "with a section of the spare room", api.Object{Sects: o.Sects, Syms: o.Syms[:9], Groups: groups}, api.ErrSect)
	asked(t, "with a symbol of the spare room", api.Object{Sects: o.Sects[:3], Syms: o.Syms, Groups: groups}, api.ErrSym)
	asked(t, "with a member of the spare room", api.Object{Sects: o.Sects[:3], Syms: o.Syms[:9], Groups: o.Groups[:1]}, api.ErrGroup)
}
