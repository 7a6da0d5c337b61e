package place

import (
	"fmt"
	"math"
	"math/rand"
	"reflect"
	"slices"
	"strconv"
	"strings"
	"testing"

	"dovetail/api"
	"dovetail/ar"
	"dovetail/comdat"
	"dovetail/emit"
	"dovetail/pick"
	"dovetail/syms"
)

// numbers: those behind text's "+"s, as many as there are places for.
func numbers(text string, places ...*uint64) {
	for i, n := range strings.Split(text, "+")[1:] {
		*places[i], _ = strconv.ParseUint(n, 10, 64)
	}
}

// sect: a section of a short text: its name, ":", letters ("x" to be run, "w" to be written, "z" of zeros, "n" without ShfAlloc, "-" not kept), and, after a "+" each, Align and Size; and whether it is kept.
func sect(text string) (api.Sect, bool) {
	name, rest, _ := strings.Cut(text, ":")
	letters, _, _ := strings.Cut(rest, "+")
	s := api.Sect{Name: name, Flags: api.ShfAlloc}
	for _, c := range letters {
		switch c {
		case 'x':
			s.Flags |= api.ShfExec
		case 'w':
			s.Flags |= api.ShfWrite
		case 'z':
			s.Zero = true
		case 'n':
			s.Flags &^= api.ShfAlloc
		}
	}
	numbers(rest, &s.Align, &s.Size)
	return s, !strings.Contains(letters, "-")
}

// objects: an object for each text, which has sections' texts, parted by spaces; and which of them are kept.
func objects(texts ...string) ([]api.Picked, [][]bool) {
	var l []api.Picked
	var kept [][]bool
	for i, text := range texts {
		p, row := api.Picked{Input: i, Member: -1, O: api.Object{Syms: []api.Sym{{}}}}, []bool{}
		for _, word := range strings.Fields(text) {
			s, k := sect(word)
			p.O.Sects, row = append(p.O.Sects, s), append(row, k)
		}
		l, kept = append(l, p), append(kept, row)
	}
	return l, kept
}

// defsOf: the Defs of a text, parted by spaces: a name, ":", the kind's letter ("n", "s", "a", "c"), and, after a "+" each, Align and Size.
func defsOf(text string) []api.Def {
	var defs []api.Def
	for _, word := range strings.Fields(text) {
		name, rest, _ := strings.Cut(word, ":")
		d := api.Def{Name: name, Kind: strings.IndexByte("nsac", rest[0]), Obj: 2, Value: 77}
		numbers(rest, &d.Align, &d.Size)
		defs = append(defs, d)
	}
	return defs
}

// told: pieces as text: of each a class's letter, the Out, object and section, and what else isn't 0.
func told(l []api.Piece) string {
	var texts []string
	for _, p := range l {
		class := "?"
		if p.Class >= 0 && p.Class < 4 {
			class = string("TCDZ"[p.Class])
		}
		text := fmt.Sprintf("%s%s %d.%d", class, p.Out, p.Obj, p.Sect)
		for i, n := range []uint64{p.Align, p.Size, p.Addr} {
			if n != 0 {
				text += fmt.Sprintf(" %c%d", "lz@"[i], n)
			}
		}
		texts = append(texts, text)
	}
	return strings.Join(texts, ", ")
}

// plainClass: P22.1's words about a section, one way at a time.
func plainClass(s api.Sect) int {
	exec, write := s.Flags/4%2 == 1, s.Flags%2 == 1
	if exec {
		return 0
	}
	if write && s.Zero {
		return 3
	}
	if write {
		return 2
	}
	return 1
}

// plainOut: P22.1's words about a name, of points.
func plainOut(name string) string {
	parts := strings.Split(name, ".")
	if len(parts) >= 3 && parts[0] == "" && slices.Contains([]string{"text", "rodata", "data", "bss"}, parts[1]) {
		return "." + parts[1]
	}
	return name
}

// plainComing: all that the output is put together of, in the order in which it comes: by object, section; the commons last.
func plainComing(l []api.Picked, kept [][]bool, defs []api.Def) []api.Piece {
	var all []api.Piece
	for i := range kept {
		for k := range kept[i] {
			if kept[i][k] {
				s := l[i].O.Sects[k]
				all = append(all, api.Piece{Obj: i, Sect: k, Class: plainClass(s), Out: plainOut(s.Name), Align: s.Align, Size: s.Size})
			}
		}
	}
	for k, d := range defs {
		if d.Kind == 3 {
			all = append(all, api.Piece{Obj: -1, Sect: k, Class: 3, Out: "COMMON", Align: d.Align, Size: d.Size})
		}
	}
	return all
}

// plainPieces: P22.2's words: of each class the Outs, of each Out the pieces.
func plainPieces(l []api.Picked, kept [][]bool, defs []api.Def) []api.Piece {
	all := plainComing(l, kept, defs)
	var out []api.Piece
	for class := range 4 {
		var names []string
		for _, p := range all {
			if p.Class == class && !slices.Contains(names, p.Out) {
				names = append(names, p.Out)
			}
		}
		for _, name := range names {
			for _, p := range all {
				if p.Class == class && p.Out == name {
					out = append(out, p)
				}
			}
		}
	}
	return out
}

// stand: P22.3, and the like of commons: each that should stand stands once, no other does.
func stand(t *testing.T, l []api.Picked, kept [][]bool, defs []api.Def, pieces []api.Piece) {
	t.Helper()
	times := map[[2]int]int{}
	for _, p := range pieces {
		times[[2]int{p.Obj, p.Sect}]++
	}
	want := 0
	count := func(obj, sect int, stands bool) {
		n := 0
		if stands {
			n = 1
		}
		want += n
		if times[[2]int{obj, sect}] != n {
			t.Fatalf("P22.3: section %d of object %d stands %d times: %s", sect, obj, times[[2]int{obj, sect}], told(pieces))
		}
	}
	for i, p := range l {
		for k := range p.O.Sects {
			count(i, k, kept[i][k])
		}
	}
	for k, d := range defs {
		count(-1, k, d.Kind == api.DefCommon)
	}
	if len(pieces) != want {
		t.Fatalf("P22.3: %d stand, wanted %d: %s", len(pieces), want, told(pieces))
	}
}

// checked: the pieces of l, as text, having been held against the chapter's words.
func checked(t *testing.T, l []api.Picked, kept [][]bool, defs []api.Def) string {
	t.Helper()
	got := Pieces(l, kept, defs)
	if want := plainPieces(l, kept, defs); !slices.Equal(got, want) {
		t.Fatalf("P22.2: %s, wanted %s", told(got), told(want))
	}
	stand(t, l, kept, defs, got)
	return told(got)
}

// TestClass: P22.1: ShfExec ahead of all; zeros only where they may be written; no other flag, and nothing else, counts.
func TestClass(t *testing.T) {
	for _, c := range []struct {
		flags uint64
		zero  bool
		want  int
	}{
		{0, false, api.ClassConst}, {0, true, api.ClassConst},
		{api.ShfAlloc, false, api.ClassConst}, {api.ShfAlloc, true, api.ClassConst},
		{api.ShfAlloc | api.ShfWrite, false, api.ClassData}, {api.ShfAlloc | api.ShfWrite, true, api.ClassZero},
		{api.ShfWrite, false, api.ClassData}, {api.ShfWrite, true, api.ClassZero},
		{api.ShfAlloc | api.ShfExec, false, api.ClassText}, {api.ShfAlloc | api.ShfExec, true, api.ClassText},
		{api.ShfExec, false, api.ClassText}, {api.ShfExec, true, api.ClassText},
		{api.ShfExec | api.ShfWrite, false, api.ClassText}, {api.ShfExec | api.ShfWrite, true, api.ClassText},
		{7, false, api.ClassText}, {7, true, api.ClassText},
		{api.ShfAlloc | api.ShfMerge | api.ShfStrings, false, api.ClassConst},
		{api.ShfAlloc | api.ShfGroup | api.ShfInfo, true, api.ClassConst},
		{api.ShfGroup | api.ShfWrite, true, api.ClassZero},
		{math.MaxUint64, true, api.ClassText}, {math.MaxUint64, false, api.ClassText},
		{math.MaxUint64 &^ api.ShfExec, true, api.ClassZero}, {math.MaxUint64 &^ api.ShfExec, false, api.ClassData},
		{math.MaxUint64 &^ 5, true, api.ClassConst}, {math.MaxUint64 &^ 5, false, api.ClassConst},
		{1 << 63, false, api.ClassConst}, {8, true, api.ClassConst},
	} {
		for _, s := range []api.Sect{
			{Flags: c.flags, Zero: c.zero},
			{Flags: c.flags, Zero: c.zero, Name: ".bss.x", Align: 8, Size: 5, Data: []byte("bytes")},
			{Flags: c.flags, Zero: c.zero, Name: ".text", Size: 0, Rels: []api.Rela{{}}},
			{Flags: c.flags, Zero: c.zero, Name: "COMMON", Size: math.MaxUint64, Align: math.MaxUint64},
		} {
			if got := Class(s); got != c.want {
				t.Errorf("P22.1: %+v: %d, wanted %d", s, got, c.want)
			}
		}
	}
	for flags := range uint64(1 << 12) {
		for _, zero := range []bool{false, true} {
			s := api.Sect{Flags: flags, Zero: zero}
			if got, want := Class(s), plainClass(s); got != want {
				t.Errorf("P22.1: %+v: %d, wanted %d", s, got, want)
			}
		}
	}
}

// TestOut: P22.1: names that begin so, such as only nearly do, and all others.
func TestOut(t *testing.T) {
	for _, begin := range []string{".text", ".rodata", ".data", ".bss"} {
		for _, end := range []string{".", ".a", ".a.b", "..", "..a", ".a.", ".text", ".bss.x", ".\x00", ".é", ".\xff", ". ", ".1.1", ".rel.ro", ".rel.ro.local.x", ".unlikely.x", ".str1.8.", "." + strings.Repeat("x", api.MaxName-1-len(begin)), "." + strings.Repeat(".", api.MaxName*2)} {
			if got := Out(begin + end); got != begin {
				t.Errorf("P22.1: %q: %q, wanted %q", begin+end, got, begin)
			}
		}
		for _, name := range []string{begin, begin + "x", begin + "_.a", begin + " .a", begin + "\x00.a", begin + "1.a", begin[1:] + ".a", begin[1:], " " + begin + ".a", "x" + begin + ".a", "." + begin + ".a", ".x" + begin + ".a", begin[:len(begin)-1] + ".a", strings.ToUpper(begin) + ".a", begin[:2] + strings.ToUpper(begin[2:]) + ".a", begin + begin[1:] + ".a", begin + "-.", ".s" + begin[1:] + ".a"} {
			if got := Out(name); got != name {
				t.Errorf("P22.1: %q: %q, wanted the name itself", name, got)
			}
		}
	}
	for _, name := range []string{"", ".", "..", "...", ".a", ".a.b", "a.b", "COMMON", "COMMON.x", ".init.text.a", ".comment.", ".sdata.x", ".sbss.x", ".tdata.x", ".tbss.x", ".debug.text.", "\x00", "\xff.text.", "text.", "own", ".t.ext.", ".note.x", ".init_array.5", ".eh_frame", strings.Repeat(".", 300)} {
		if got := Out(name); got != name {
			t.Errorf("P22.1: %q: %q, wanted the name itself", name, got)
		}
	}
	rnd := rand.New(rand.NewSource(221))
	parts := []string{".", ".", ".", "text", "rodata", "data", "bss", "x", "Text", " ", "\x00"}
	for range 200000 {
		name := ""
		for range rnd.Intn(7) {
			name += parts[rnd.Intn(len(parts))]
		}
		if got, want := Out(name), plainOut(name); got != want {
			t.Fatalf("P22.1: %q: %q, wanted %q", name, got, want)
		}
		if again := Out(Out(name)); again != Out(name) {
			t.Fatalf("P22.1: %q: %q", name, again)
		}
	}
}

// TestPieces: P22.2: what stands there, and what stands behind what.
func TestPieces(t *testing.T) {
	for _, c := range []struct {
		texts []string
		defs  string
		want  string
	}{
		{nil, "", ""},
		{[]string{""}, "", ""},
		{[]string{"", "", ""}, "a:s b:a c:n", ""},
		// One section.
		{[]string{".text:x+4+100"}, "", "T.text 0.0 l4 z100"},
		{[]string{".rodata:+1+7"}, "", "C.rodata 0.0 l1 z7"},
		{[]string{".data:w+4096+1048576"}, "", "D.data 0.0 l4096 z1048576"},
		{[]string{".bss:wz+8+67108864"}, "", "Z.bss 0.0 l8 z67108864"},
		{[]string{".bss:wz+1+0"}, "", "Z.bss 0.0 l1"},
		{[]string{"", "", ".text:-x .text:x+2+6"}, "", "T.text 2.1 l2 z6"},
		{[]string{".data.x:x+4+8"}, "", "T.data 0.0 l4 z8"},
		{[]string{".text.x:+4+8"}, "", "C.text 0.0 l4 z8"},
		{[]string{".bss.x:w+4+8"}, "", "D.bss 0.0 l4 z8"},
		{[]string{".text.x:wz+4+8"}, "", "Z.text 0.0 l4 z8"},
		{[]string{":+4+8"}, "", "C 0.0 l4 z8"},
		// What isn't kept doesn't stand there, whatever it is; what is kept does.
		{[]string{".text:-x+4+8 .rodata:-+4+8 .data:-w+4+8 .bss:-wz+4+8 .note:-n"}, "", ""},
		{[]string{".note:n+4+8"}, "", "C.note 0.0 l4 z8"},
		{[]string{".a:-x .b:x .c:-x", ".a:x .b:-x"}, "", "T.b 0.1, T.a 1.0"},
		// Class by class.
		{[]string{".bss:wz+1+1 .data:w+2+2 .rodata:+3+3 .text:x+4+4"}, "", "T.text 0.3 l4 z4, C.rodata 0.2 l3 z3, D.data 0.1 l2 z2, Z.bss 0.0 l1 z1"},
		{[]string{".bss:wz", ".data:w", ".rodata:", ".text:x"}, "", "T.text 3.0, C.rodata 2.0, D.data 1.0, Z.bss 0.0"},
		{[]string{".text:x .rodata: .data:w .bss:wz", ".text:x .rodata: .data:w .bss:wz"}, "", "T.text 0.0, T.text 1.0, C.rodata 0.1, C.rodata 1.1, D.data 0.2, D.data 1.2, Z.bss 0.3, Z.bss 1.3"},
		// One name in several classes: several Outs.
		{[]string{"a:wz a:w a: a:x", "b:x b:wz a:x a:wz b:w a:w b: a:"}, "", "Ta 0.3, Ta 1.2, Tb 1.0, Ca 0.2, Ca 1.7, Cb 1.6, Da 0.1, Da 1.5, Db 1.4, Za 0.0, Za 1.3, Zb 1.1"},
		{[]string{"a:x b: b:x a:"}, "", "Ta 0.0, Tb 0.2, Cb 0.1, Ca 0.3"},
		// Outs in the order in which they come first, not in that of names.
		{[]string{"b:x a:x c:x"}, "", "Tb 0.0, Ta 0.1, Tc 0.2"},
		{[]string{"b:x a:x", "c:x a:x b:x", "a:x c:x"}, "", "Tb 0.0, Tb 1.2, Ta 0.1, Ta 1.1, Ta 2.0, Tc 1.0, Tc 2.1"},
		{[]string{"z:-x b:x", "z:x b:x"}, "", "Tb 0.1, Tb 1.1, Tz 1.0"},
		// The chapter's example: side by side.
		{[]string{".text.a:x+4+4 .text:x+4+8", ".text.a:x+4+12"}, "", "T.text 0.0 l4 z4, T.text 0.1 l4 z8, T.text 1.0 l4 z12"},
		{[]string{".text.a:x own:x .text.b:x", "own:x .text.:x"}, "", "T.text 0.0, T.text 0.2, T.text 1.1, Town 0.1, Town 1.0"},
		{[]string{".rodata.str1.1: .rodata.cst8: .rodata: .rodata1:"}, "", "C.rodata 0.0, C.rodata 0.1, C.rodata 0.2, C.rodata1 0.3"},
		{[]string{".data.rel.ro:w .datax:w .data:w .data.:w"}, "", "D.data 0.0, D.data 0.2, D.data 0.3, D.datax 0.1"},
		// Commons behind all others, in order of their Defs.
		{nil, "a:c+8+100", "ZCOMMON -1.0 l8 z100"},
		{[]string{""}, "b:c+8+100 a:c+16+7", "ZCOMMON -1.0 l8 z100, ZCOMMON -1.1 l16 z7"},
		{nil, "a:c b:c c:c", "ZCOMMON -1.0, ZCOMMON -1.1, ZCOMMON -1.2"},
		{nil, "a:n b:c+1+2 c:s d:a e:c+4+3 f:s", "ZCOMMON -1.1 l1 z2, ZCOMMON -1.4 l4 z3"},
		{[]string{".bss:wz+1+1 .text:x+2+2"}, "a:c+8+100", "T.text 0.1 l2 z2, Z.bss 0.0 l1 z1, ZCOMMON -1.0 l8 z100"},
		{[]string{".bss:wz z:wz", ".bss.x:wz .data:w"}, "a:s b:c c:c", "D.data 1.1, Z.bss 0.0, Z.bss 1.0, Zz 0.1, ZCOMMON -1.1, ZCOMMON -1.2"},
		// A section of the commons' name: of another class another Out; of theirs the same one, and ahead of them.
		{[]string{"COMMON:x COMMON: COMMON:w"}, "a:c+1+1", "TCOMMON 0.0, CCOMMON 0.1, DCOMMON 0.2, ZCOMMON -1.0 l1 z1"},
		{[]string{".bss:wz COMMON:wz+2+2", "COMMON:wz+3+3"}, "a:c+1+1", "Z.bss 0.0, ZCOMMON 0.1 l2 z2, ZCOMMON 1.0 l3 z3, ZCOMMON -1.0 l1 z1"},
		{[]string{"COMMON.x:wz common:wz .COMMON:wz"}, "a:c", "ZCOMMON.x 0.0, Zcommon 0.1, Z.COMMON 0.2, ZCOMMON -1.0"},
	} {
		l, kept := objects(c.texts...)
		if got := checked(t, l, kept, defsOf(c.defs)); got != c.want {
			t.Errorf("P22.2: %q, %q: %s, wanted %s", c.texts, c.defs, got, c.want)
		}
	}
}

// TestSide: P22.2: of a piece it is the section that tells Align and Size, not its data; of a common the Def; nothing else gets in.
func TestSide(t *testing.T) {
	o := api.Object{Sects: []api.Sect{{Name: ".text.f", Flags: 6, Align: 16, Size: 4, Data: []byte("more than four"), Rels: []api.Rela{{Off: 4}}}, {Name: ".bss", Zero: true, Flags: 3, Align: 1 << 63, Size: math.MaxUint64}}}
	defs := []api.Def{{Name: "c", Kind: api.DefCommon, Obj: 7, Sect: 5, Value: 9, Size: math.MaxUint64, Align: 1 << 40}}
	want := []api.Piece{{Obj: 0, Sect: 0, Class: api.ClassText, Out: ".text", Align: 16, Size: 4}, {Obj: 0, Sect: 1, Class: api.ClassZero, Out: ".bss", Align: 1 << 63, Size: math.MaxUint64}, {Obj: -1, Sect: 0, Class: api.ClassZero, Out: "COMMON", Align: 1 << 40, Size: math.MaxUint64}}
	if got := Pieces([]api.Picked{{Input: 5, Member: 6, O: o}}, [][]bool{{true, true}}, defs); !slices.Equal(got, want) {
		t.Errorf("P22.2: %+v, wanted %+v", got, want)
	}
}

// TestEachFew: P22.2, P22.3: any four of nine sections, in one object and in two, each with commons and without.
func TestEachFew(t *testing.T) {
	kinds := []string{"", "a:x", "b:x", "a:-x", "a:wz", ".bss.a:wz", ".bss:wz", "COMMON:wz", "a:w"}
	n := len(kinds)
	for k := range n * n * n * n {
		four := []string{kinds[k%n], kinds[k/n%n], kinds[k/n/n%n], kinds[k/n/n/n]}
		for cut := range 3 {
			l, kept := objects(strings.Join(four[:cut], " "), strings.Join(four[cut:], " "))
			for _, defs := range []string{"", "a:c b:s c:c"} {
				checked(t, l, kept, defsOf(defs))
			}
		}
	}
}

// anyObjects: objects of any sections, some of which are kept, and any Defs.
func anyObjects(rnd *rand.Rand) ([]api.Picked, [][]bool, []api.Def) {
	names := []string{".text", ".text.a", ".text.b", ".rodata", ".rodata.str1.1", ".data", ".data.rel.ro", ".bss", ".bss.x", "COMMON", "own", "", ".init", ".textual"}
	letters := []string{"x", "", "w", "wz", "xw", "z", "xz", "-x", "-", "-w", "-wz", "n"}
	var texts []string
	for range rnd.Intn(6) {
		text := ""
		for range rnd.Intn(9) {
			text += fmt.Sprintf("%s:%s+%d+%d ", names[rnd.Intn(len(names))], letters[rnd.Intn(len(letters))], 1<<rnd.Intn(13), rnd.Intn(1000))
		}
		texts = append(texts, text)
	}
	defs := ""
	for k := range rnd.Intn(9) {
		defs += fmt.Sprintf("d%d:%c+%d+%d ", k, "nsaccc"[rnd.Intn(6)], 1<<rnd.Intn(13), rnd.Intn(1000))
	}
	l, kept := objects(texts...)
	return l, kept, defsOf(defs)
}

// TestAny: P22.2, P22.3: any objects.
func TestAny(t *testing.T) {
	rnd := rand.New(rand.NewSource(222))
	for range 30000 {
		l, kept, defs := anyObjects(rnd)
		checked(t, l, kept, defs)
	}
}

// TestEmptyLists: P22.2: lists that are nil and such that are empty are the same.
func TestEmptyLists(t *testing.T) {
	for _, l := range [][]api.Picked{nil, {}, {{}}, {{O: api.Object{Sects: []api.Sect{}}}}} {
		for _, kept := range [][][]bool{nil, {}, {nil}, {{}}} {
			for _, defs := range [][]api.Def{nil, {}, {{}}} {
				if got := Pieces(l, kept, defs); len(got) != 0 {
					t.Errorf("P22.2: of nothing: %s", told(got))
				}
			}
			if got := told(Pieces(l, kept, defsOf("a:c+2+3"))); got != "ZCOMMON -1.0 l2 z3" {
				t.Errorf("P22.2: of a common alone: %s", got)
			}
		}
	}
}

// file: the bytes of an object of such sections, the last of which is in a group of that signature, and of such symbols.
func file(t *testing.T, text, sig string, syms ...api.Sym) []byte {
	t.Helper()
	l, _ := objects(text)
	o := l[0].O
	for k, s := range o.Sects {
		if !s.Zero {
			o.Sects[k].Data = make([]byte, s.Size)
		}
	}
	o.Syms = append(o.Syms, api.Sym{Name: sig, Sect: api.Abs})
	o.Syms = append(o.Syms, syms...)
	o.Groups = []api.Group{{Sig: sig, Members: []int{len(o.Sects) - 1}}}
	b, e := emit.Write(o)
	if e != api.OK {
		t.Fatalf("an object that can't be written: %s: %v", text, e)
	}
	return b
}

// TestOfFiles: P22.2, P22.3: objects that were written, picked and read: groups that were dropped and sections without ShfAlloc don't stand there, the one meaning of a common does.
func TestOfFiles(t *testing.T) {
	global := func(name string, sect int, value, size uint64) api.Sym {
		return api.Sym{Name: name, Bind: api.BindGlobal, Sect: sect, Value: value, Size: size}
	}
	start := file(t, ".text:x+4+8 .data:w+8+16 .note:n+1+4 .bss:wz+8+64 .text.inl:x+2+6", "inl", global("_start", 1, 0, 8), global("f", 0, 0, 0), global("buf", api.Common, 8, 24), global("abs", api.Abs, 5, 0))
	f := file(t, ".rodata.f:+4+12 .text.f:x+4+20 .text.inl:x+2+6", "inl", global("f", 2, 0, 20), global("buf", api.Common, 4, 40), global("cnt", api.Common, 4, 4))
	lib := ar.Write([]api.Member{{Name: "not", B: file(t, ".text:x+4+4", "n")}, {Name: "f", B: f}}, nil)
	l, _, e := pick.Pick([][]byte{start, lib, file(t, "own:x+1+1 .bss.z:wz+4+4 .data:w+1+3", "own")}, "_start")
	if e != api.OK || len(l) != 3 {
		t.Fatalf("%d came, %v", len(l), e)
	}
	kept := comdat.Kept(l)
	defs, _, e := syms.Resolve(l, kept)
	if e != api.OK {
		t.Fatalf("Resolve: %v", e)
	}
	const want = "T.text 0.0 l4 z8, T.text 0.4 l2 z6, T.text 1.1 l4 z20, Town 2.0 l1 z1, C.rodata 1.0 l4 z12, D.data 0.1 l8 z16, D.data 2.2 l1 z3, Z.bss 0.3 l8 z64, Z.bss 2.1 l4 z4, ZCOMMON -1.2 l8 z40, ZCOMMON -1.3 l4 z4"
	if got := checked(t, l, kept, defs); got != want {
		t.Errorf("P22.2: %s, wanted %s", got, want)
	}
}

// TestMost: P22.2, P22.3: as many objects as there may be, each of as many sections, of one Out, of few, and each of its own: all ends in time, though they can't be held against each other one by one.
func TestMost(t *testing.T) {
	const objects, each = api.MaxInputs * 100, api.MaxSects
	for _, names := range []int{1, 7, objects * each} {
		var l []api.Picked
		var kept [][]bool
		var defs []api.Def
		for i := range objects {
			p, row := api.Picked{Input: i}, make([]bool, each)
			for k := range each {
				n := i*each + k
				row[k] = n%3 != 0
				p.O.Sects = append(p.O.Sects, api.Sect{Name: "s" + strconv.Itoa(n%names), Flags: []uint64{6, 2, 3, 3}[k%4], Zero: k%4 == 3, Size: uint64(n)})
			}
			l, kept, defs = append(l, p), append(kept, row), append(defs, api.Def{Kind: i % 4})
		}
		got := Pieces(l, kept, defs)
		stand(t, l, kept, defs, got)
		for i, p := range got[1:] {
			if q := got[i]; q.Class > p.Class || q.Out == p.Out && q.Class == p.Class && p.Obj >= 0 && (q.Obj > p.Obj || q.Obj == p.Obj && q.Sect >= p.Sect) {
				t.Fatalf("P22.2: %+v behind %+v", p, q)
			}
		}
		last := got[len(got)-1]
		if last.Obj != -1 || last.Sect != objects-1 || last.Out != "COMMON" {
			t.Errorf("P22.2: the last one: %+v", last)
		}
	}
}

// TestWrong: P22.2: calls end at objects that no layer tells, at what is kept of other objects, and at any Defs.
func TestWrong(t *testing.T) {
	rnd := rand.New(rand.NewSource(223))
	for range 40000 {
		l, kept, defs := anyObjects(rnd)
		for k := range defs {
			defs[k].Kind = []int{-1, 0, 3, 4, math.MinInt, math.MaxInt}[rnd.Intn(6)]
			defs[k].Obj, defs[k].Sect = rnd.Intn(100)-50, rnd.Intn(100)-50
		}
		for _, p := range l {
			for k := range p.O.Sects {
				p.O.Sects[k].Flags, p.O.Sects[k].Align = rnd.Uint64(), rnd.Uint64()
			}
		}
		other, otherKept, _ := anyObjects(rnd)
		for range rnd.Intn(3) {
			kept = append(kept, make([]bool, rnd.Intn(12)))
		}
		for _, p := range append(append(Pieces(l, otherKept, defs), Pieces(other, kept, nil)...), Pieces(l, nil, nil)...) {
			if p.Class < 0 || p.Class >= api.Classes || p.Obj < -1 || p.Sect < 0 || p.Addr != 0 {
				t.Fatalf("P22.2: %+v", p)
			}
		}
	}
	if got := told(Pieces([]api.Picked{{O: api.Object{Sects: []api.Sect{{Name: "a"}, {Name: "b"}}}}, {O: api.Object{Sects: []api.Sect{{Name: "c"}}}}}, [][]bool{{true}}, nil)); got != "Ca 0.0" {
		t.Errorf("P22.3: of sections of which nobody says that they are kept: %s", got)
	}
	if got := told(Pieces([]api.Picked{{O: api.Object{Sects: []api.Sect{{Name: "a"}}}}}, [][]bool{{true, true}, {true}}, nil)); got != "Ca 0.0" {
		t.Errorf("P22.3: of sections that aren't there: %s", got)
	}
}

// TestOwnMemory: P22.2: what is handed in is neither changed nor kept, the spare room behind it included; what is answered is new memory.
func TestOwnMemory(t *testing.T) {
	const want = "T.text 0.0 l4 z8, T.text 1.0 l4 z8, D.data 0.2 l1 z2, Z.bss 1.1 l2 z2, ZCOMMON -1.0 l8 z9"
	make1 := func() ([]api.Picked, [][]bool, []api.Def) {
		l, kept := objects(".text:x+4+8 gone:-x .data:w+1+2", ".text.a:x+4+8 .bss:wz+2+2", "spare:x")
		for i := range l {
			l[i].O.Sects = append(l[i].O.Sects, api.Sect{Name: "spare"})[:len(l[i].O.Sects)]
			kept[i] = append(kept[i], true)[:len(kept[i])]
		}
		return l[:2], kept[:2], defsOf("a:c+8+9 b:s spare:c")[:2]
	}
	all := func(l []api.Picked, kept [][]bool, defs []api.Def) []any {
		out := []any{slices.Clone(l[:3]), slices.Clone(kept[:3]), slices.Clone(defs[:3])}
		for i, p := range l[:3] {
			out = append(out, slices.Clone(p.O.Sects[:len(p.O.Sects)+1]), slices.Clone(kept[:3][i][:len(kept[:3][i])+1]))
		}
		return out
	}
	l, kept, defs := make1()
	before := all(l, kept, defs)
	got := Pieces(l, kept, defs)
	if told(got) != want {
		t.Fatalf("P22.2: %s, wanted %s", told(got), want)
	}
	if !reflect.DeepEqual(all(l, kept, defs), before) {
		t.Error("P22.2: what was handed in was changed")
	}
	for i := range l {
		clear(l[i].O.Sects)
		clear(kept[i])
	}
	clear(defs)
	if told(got) != want {
		t.Errorf("P22.2: what was handed in was kept: %s", told(got))
	}
	clear(got[:cap(got)])
	l, kept, defs = make1()
	again, other := Pieces(l, kept, defs), Pieces(l, kept, defs)
	clear(other[:cap(other)])
	if told(again) != want {
		t.Errorf("P22.2: again: %s", told(again))
	}
}

// TestSameAgain: P22.2: the same again has the same answers, whatever order a map is gone through in, and whatever was asked ahead.
func TestSameAgain(t *testing.T) {
	rnd := rand.New(rand.NewSource(224))
	for range 300 {
		l, kept, defs := anyObjects(rnd)
		first := Pieces(l, kept, defs)
		for range 10 {
			Pieces(anyObjects(rnd))
			if again := Pieces(l, kept, defs); !slices.Equal(again, first) {
				t.Fatalf("P22.2: %s, ahead of it %s", told(again), told(first))
			}
		}
	}
}
