package pick

import (
	"bytes"
	"fmt"
	"math"
	"math/rand"
	"reflect"
	"slices"
	"sort"
	"strings"
	"testing"

	"dovetail/api"
	"dovetail/ar"
	"dovetail/armap"
	"dovetail/emit"
	"dovetail/head"
	"dovetail/obj"
)

// symbol: a symbol of a short text: a place's letter, if it isn't in the first section ("?" Undef, "a" Abs, "c" Common), a binding's, if it isn't global ("w" weak, "l" local), ":", if there were letters, and its name.
func symbol(text string) api.Sym {
	s := api.Sym{Bind: api.BindGlobal, Sect: 1}
	letters, name, found := strings.Cut(text, ":")
	if !found {
		letters, name = "", text
	}
	s.Name = name
	for _, c := range letters {
		switch c {
		case '?':
			s.Sect = api.Undef
		case 'a':
			s.Sect, s.Value = api.Abs, 7
		case 'c':
			s.Sect, s.Value, s.Size = api.Common, 8, 16
		case 'w':
			s.Bind = api.BindWeak
		case 'l':
			s.Bind = api.BindLocal
		}
	}
	return s
}

// with: an object of one section, and symbols of those texts, which are parted by spaces; local ones ahead.
func with(texts string) api.Object {
	o := api.Object{Sects: []api.Sect{{Name: ".text", Flags: api.ShfAlloc | api.ShfExec, Align: 4, Size: 4, Data: []byte{0x73, 0, 0, 0}}}, Syms: []api.Sym{{}}}
	for _, text := range strings.Fields(texts) {
		o.Syms = append(o.Syms, symbol(text))
	}
	slices.SortStableFunc(o.Syms, func(a, b api.Sym) int { return min(a.Bind, 1) - min(b.Bind, 1) })
	return o
}

// object: the file of such an object.
func object(t *testing.T, texts string) []byte {
	t.Helper()
	b, e := emit.Write(with(texts))
	if e != api.OK {
		t.Fatalf("an object that can't be written: %s: %v", texts, e)
	}
	return b
}

// archive: of members of those bytes, without an index.
func archive(files ...[]byte) []byte {
	return indexed(nil, files...)
}

// indexed: an archive of members of those bytes, with that index.
func indexed(index []byte, files ...[]byte) []byte {
	var l []api.Member
	for i, b := range files {
		l = append(l, api.Member{Name: fmt.Sprint("m", i), B: b})
	}
	return ar.Write(l, index)
}

// told: where those of l came from, as text.
func told(l []api.Picked) string {
	var texts []string
	for _, p := range l {
		texts = append(texts, fmt.Sprintf("%d.%d", p.Input, p.Member))
	}
	return strings.Join(texts, " ")
}

// same: whether a and b are the same, an empty list and none at all being the same.
func same(a, b []api.Picked) bool {
	return len(a) == 0 && len(b) == 0 || reflect.DeepEqual(a, b)
}

// plainDefines: what other objects see of o: names of symbols that are global or weak, and not Undef.
func plainDefines(o api.Object) []string {
	var names []string
	for _, s := range o.Syms {
		if (s.Bind == 1 || s.Bind == 2) && s.Sect != 0 {
			names = append(names, s.Name)
		}
	}
	return names
}

// plainWants: the chapter's words about what is wanted: each name is asked for among all symbols.
func plainWants(l []api.Picked, entry string) []string {
	names := []string{entry}
	for _, p := range l {
		for _, s := range p.O.Syms {
			if s.Bind == 1 && s.Sect == 0 {
				names = append(names, s.Name)
			}
		}
	}
	var wanted []string
	for _, name := range names {
		there := slices.ContainsFunc(l, func(p api.Picked) bool { return slices.Contains(plainDefines(p.O), name) })
		if !there && !slices.Contains(wanted, name) {
			wanted = append(wanted, name)
		}
	}
	sort.Strings(wanted)
	return wanted
}

// plainError: the error that the input b has by the chapter's words.
func plainError(b []byte) api.Errno {
	if head.Kind(b) == 0 || len(b) > 1048576 {
		return api.ErrHead
	}
	if head.Kind(b) == 1 {
		_, e := obj.Read(b)
		return e
	}
	members, index, e := ar.Read(b)
	if e != api.OK {
		return e
	}
	_, e = armap.Parse(index, len(members))
	return e
}

// plainPick: the chapter's words about who takes part: what is wanted is asked for anew ahead of each member.
func plainPick(inputs [][]byte, entry string) ([]api.Picked, int, api.Errno) {
	if len(inputs) > 40 {
		return nil, -1, api.ErrMany
	}
	for i, b := range inputs {
		if e := plainError(b); e != api.OK {
			return nil, i, e
		}
	}
	var came []api.Picked
	for i, b := range inputs {
		if head.Kind(b) == 1 {
			o, _ := obj.Read(b)
			came = append(came, api.Picked{Input: i, Member: -1, O: o})
			continue
		}
		members, _, _ := ar.Read(b)
		for news := true; news; {
			news = false
			for k, m := range members {
				if plainComes(came, entry, i, k, m) {
					o, _ := obj.Read(m.B)
					came = append(came, api.Picked{Input: i, Member: k, O: o})
					news = true
				}
			}
		}
	}
	return came, 0, api.OK
}

// plainComes: whether member k of input i, which is m, didn't come yet, is an object, and defines what is wanted.
func plainComes(came []api.Picked, entry string, i, k int, m api.Member) bool {
	if slices.ContainsFunc(came, func(p api.Picked) bool { return p.Input == i && p.Member == k }) {
		return false
	}
	o, e := obj.Read(m.B)
	if e != api.OK {
		return false
	}
	wanted := plainWants(came, entry)
	return slices.ContainsFunc(plainDefines(o), func(name string) bool { return slices.Contains(wanted, name) })
}

// checked: what Pick answers, having been held against plainPick.
func checked(t *testing.T, what string, inputs [][]byte, entry string) ([]api.Picked, int, api.Errno) {
	t.Helper()
	l, at, e := Pick(inputs, entry)
	want, wantAt, wantE := plainPick(inputs, entry)
	if !same(l, want) || at != wantAt || e != wantE {
		t.Fatalf("P19.2: %s, entry %q: %s, %d, %v, wanted %s, %d, %v", what, entry, told(l), at, e, told(want), wantAt, wantE)
	}
	return l, at, e
}

// comes: that just those come, as the test has it written down.
func comes(t *testing.T, promise string, inputs [][]byte, entry, want string) {
	t.Helper()
	l, at, e := checked(t, promise, inputs, entry)
	if told(l) != want || at != 0 || e != api.OK {
		t.Errorf("%s: entry %q: %s, %d, %v, wanted %s", promise, entry, told(l), at, e, want)
	}
}

// fails: that Pick tells that error of that input, and nothing else.
func fails(t *testing.T, what string, inputs [][]byte, at int, e api.Errno) {
	t.Helper()
	l, gotAt, got := checked(t, what, inputs, "_start")
	if l != nil || gotAt != at || got != e {
		t.Errorf("P19.2: %s: %s, %d, %v, wanted %d, %v", what, told(l), gotAt, got, at, e)
	}
}

// picked: objects of such texts, as if they had come.
func picked(texts ...string) []api.Picked {
	var l []api.Picked
	for i, s := range texts {
		l = append(l, api.Picked{Input: i, Member: -1, O: with(s)})
	}
	return l
}

// TestWants: P19.1: the entry, and names of global symbols that are Undef; none that has a meaning anywhere; in order, each once.
func TestWants(t *testing.T) {
	for _, c := range []struct {
		l    []api.Picked
		want string
	}{
		{nil, "_start"},
		{[]api.Picked{}, "_start"},
		{picked(""), "_start"},
		{picked("_start"), ""},
		{picked("w:_start"), ""},
		{picked("c:_start"), ""},
		{picked("cw:_start"), ""},
		{picked("a:_start"), ""},
		{picked("aw:_start"), ""},
		{picked("l:_start"), "_start"},
		{picked("la:_start"), "_start"},
		{picked("?:_start"), "_start"},
		{picked("?w:_start"), "_start"},
		{picked("", "", "_start"), ""},
		{picked("?:a"), "_start a"},
		{picked("?w:a"), "_start"},
		{picked("?l:a"), "_start"},
		{picked("a", "w:b", "c:c", "a:d", "l:e"), "_start"},
		{picked("_start ?:b ?:a ?w:c ?:Z"), "Z a b"},
		{picked("_start ?:a", "?:a", "?:a"), "a"},
		{picked("_start ?:a ?:a ?:b ?:a"), "a b"},
		{picked("_start ?:a", "a"), ""},
		{picked("a", "_start ?:a"), ""},
		{picked("_start ?:a a"), ""},
		{picked("_start a ?:a"), ""},
		{picked("_start ?:a", "w:a"), ""},
		{picked("_start ?:a", "c:a"), ""},
		{picked("_start ?:a", "cw:a"), ""},
		{picked("_start ?:a", "a:a"), ""},
		{picked("_start ?:a", "aw:a"), ""},
		{picked("_start ?:a", "l:a"), "a"},
		{picked("_start ?:a l:a"), "a"},
		{picked("_start ?:a", "?w:a"), "a"},
		{picked("_start ?w:a", "?:a"), "a"},
		{picked("_start ?w:a", "?w:a"), ""},
		{picked("_start ?:a ?:b", "w:b ?:a c:d", "?:d ?:_start"), "a"},
		{picked("_start ?:a ?:aa ?:A ?:_ ?:10 ?:9 ?:é ?:\xff ?:a0"), "10 9 A _ a a0 aa é \xff"},
	} {
		if got := strings.Join(Wants(c.l, "_start"), " "); got != c.want {
			t.Errorf("P19.1: %+v: %q, wanted %q", c.l, got, c.want)
		}
	}
}

// TestWantsEntry: P19.1: any text may be the entry; only what defines it makes it unwanted.
func TestWantsEntry(t *testing.T) {
	l := picked("a ?:b", "w:_start ?:c")
	for _, c := range []struct {
		entry string
		want  []string
	}{
		{"a", []string{"b", "c"}},
		{"_start", []string{"b", "c"}},
		{"b", []string{"b", "c"}},
		{"", []string{"", "b", "c"}},
		{"bb", []string{"b", "bb", "c"}},
		{"z\x00", []string{"b", "c", "z\x00"}},
		{"a\x00", []string{"a\x00", "b", "c"}},
		{strings.Repeat("a", 201), []string{strings.Repeat("a", 201), "b", "c"}},
	} {
		if got := Wants(l, c.entry); !slices.Equal(got, c.want) {
			t.Errorf("P19.1: entry %q: %q, wanted %q", c.entry, got, c.want)
		}
		if got := Wants(nil, c.entry); !slices.Equal(got, []string{c.entry}) {
			t.Errorf("P19.1: of nothing, entry %q: %q", c.entry, got)
		}
	}
}

// TestWantsRaw: P19.1: of objects that could not have been read, too: any bindings, sections, names; sections, groups, and where an object came from say nothing.
func TestWantsRaw(t *testing.T) {
	for _, bind := range []int{math.MinInt, -1, 0, 1, 2, 3, 10, 257, math.MaxInt} {
		for _, sect := range []int{math.MinInt, -1, 0, 1, 2, 0xfff1, 0xfff2, 0xffff, 1 << 16, math.MaxInt} {
			for _, name := range []string{"", "x", "x\x00y", strings.Repeat("n", 201)} {
				l := []api.Picked{{Input: -5, Member: 1 << 40, O: api.Object{Syms: []api.Sym{{Name: name, Bind: bind, Type: 9, Sect: sect}}}}}
				want := []string{"e"}
				if bind == 1 && sect == 0 {
					want = append(want, name)
					sort.Strings(want)
				}
				if got := Wants(l, "e"); !slices.Equal(got, want) {
					t.Errorf("P19.1: %+v: %q, wanted %q", l, got, want)
				}
				want = []string{name}
				if (bind == 1 || bind == 2) && sect != 0 {
					want = nil
				}
				if got := Wants(l, name); !slices.Equal(got, want) {
					t.Errorf("P19.1: %+v, the entry: %q, wanted %q", l, got, want)
				}
			}
		}
	}
	o := api.Object{Sects: []api.Sect{{Name: "e", Rels: []api.Rela{{Sym: 9}}}}, Groups: []api.Group{{Sig: "e", Members: []int{0, 7}}}}
	if got := Wants([]api.Picked{{O: o}, {O: o}}, "e"); !slices.Equal(got, []string{"e"}) {
		t.Errorf("P19.1: objects without symbols: %q", got)
	}
}

// TestWantsMany: P19.1: so many names that each is found at once, or this doesn't end in time.
func TestWantsMany(t *testing.T) {
	const many = 100000
	var l []api.Picked
	var want []string
	for i := range many {
		name := fmt.Sprintf("%06d", i*7919%many)
		l = append(l, api.Picked{O: api.Object{Syms: []api.Sym{{Name: name, Bind: 1}, {Name: "d" + name, Bind: 1}, {Name: "d" + name, Bind: 2, Sect: 3}, {Name: "w" + name, Bind: 2}}}})
		want = append(want, fmt.Sprintf("%06d", i))
	}
	if got := Wants(l, "d000001"); !slices.Equal(got, want) {
		t.Errorf("P19.1: %d names of %d", len(got), many)
	}
}

// anyTexts: few symbols of few names, so that many are alike.
func anyTexts(rnd *rand.Rand, names int) string {
	kinds := []string{"", "", "", "w:", "c:", "a:", "aw:", "cw:", "l:", "la:", "?:", "?:", "?:", "?:", "?w:"}
	var texts []string
	for range rnd.Intn(4) {
		texts = append(texts, kinds[rnd.Intn(len(kinds))]+string(rune('a'+rnd.Intn(names))))
	}
	return strings.Join(texts, " ")
}

// TestWantsAny: P19.1: any objects, held against a plain walk.
func TestWantsAny(t *testing.T) {
	rnd := rand.New(rand.NewSource(191))
	some := 0
	for range 20000 {
		var texts []string
		for range rnd.Intn(5) {
			texts = append(texts, anyTexts(rnd, 8))
		}
		l := picked(texts...)
		entry := string(rune('a' + rnd.Intn(8)))
		got, want := Wants(l, entry), plainWants(l, entry)
		if !slices.Equal(got, want) {
			t.Fatalf("P19.1: %q, entry %s: %q, wanted %q", texts, entry, got, want)
		}
		if len(want) > 1 {
			some++
		}
	}
	if some < 4000 {
		t.Errorf("P19.1: several names were wanted %d times", some)
	}
}

// TestWantsOwnMemory: P19.1: what is handed in stays as it is, the spare room behind it included; what is answered is new memory.
func TestWantsOwnMemory(t *testing.T) {
	all := picked("?:b ?:a", "a:spare ?:more")
	all[0].O.Syms = append(all[0].O.Syms, symbol("?:room"))
	old := picked("?:b ?:a", "a:spare ?:more")
	old[0].O.Syms = append(old[0].O.Syms, symbol("?:room"))
	l := slices.Clone(all)[:1]
	l[0].O.Syms = all[0].O.Syms[:3]
	want := []string{"a", "b", "e"}
	names := Wants(l, "e")
	if !slices.Equal(names, want) || !reflect.DeepEqual(all, old) || !reflect.DeepEqual(l[:2][1], old[1]) {
		t.Errorf("P19.1: Wants changed its objects, or is wrong: %+v, %q", all, names)
	}
	clear(names[:cap(names)])
	if again := Wants(l, "e"); !slices.Equal(again, want) {
		t.Errorf("P19.1: Wants again: %q", again)
	}
}

// TestPick: P19.2: who takes part, in the order in which they come.
func TestPick(t *testing.T) {
	start, a, b, c := object(t, "_start ?:a"), object(t, "a ?:b"), object(t, "b w:extra"), object(t, "c ?w:d")
	junk, none := []byte("junk"), archive()
	for _, x := range []struct {
		inputs [][]byte
		want   string
	}{
		{nil, ""},
		{[][]byte{}, ""},
		{[][]byte{start}, "0.-1"},
		{[][]byte{c}, "0.-1"},
		{[][]byte{object(t, "")}, "0.-1"},
		{[][]byte{start, a, b, c}, "0.-1 1.-1 2.-1 3.-1"},
		{[][]byte{start, start, start}, "0.-1 1.-1 2.-1"},
		{[][]byte{none}, ""},
		{[][]byte{none, start, none}, "1.-1"},
		{[][]byte{archive(junk, nil, junk)}, ""},
		{[][]byte{archive(start)}, "0.0"},
		{[][]byte{archive(junk, start)}, "0.1"},
		// By rounds: c is gone past twice, b comes in the second one.
		{[][]byte{start, archive(c, b, a)}, "0.-1 1.2 1.1"},
		{[][]byte{start, archive(a, b, c)}, "0.-1 1.0 1.1"},
		{[][]byte{start, archive(b, a)}, "0.-1 1.1 1.0"},
		{[][]byte{start, archive(b), archive(a)}, "0.-1 2.0"},
		{[][]byte{start, archive(b), archive(a), archive(b)}, "0.-1 2.0 3.0"},
		{[][]byte{archive(c, start, b, a), archive(a, b)}, "0.1 0.3 0.2"},
		// What stands behind an archive asks nothing of it.
		{[][]byte{archive(a, b, c), start}, "1.-1"},
		{[][]byte{archive(b, a), start, archive(b, a)}, "1.-1 2.1 2.0"},
		{[][]byte{start, archive(junk, a, junk), archive(a, b)}, "0.-1 1.1 2.1"},
		// What is defined isn't wanted, whoever defines it.
		{[][]byte{start, a, archive(a, b)}, "0.-1 1.-1 2.1"},
		{[][]byte{start, b, archive(b, a)}, "0.-1 1.-1 2.1"},
		{[][]byte{start, archive(a, a, a)}, "0.-1 1.0"},
		{[][]byte{start, archive(a), archive(a)}, "0.-1 1.0"},
		{[][]byte{archive(start, start), start}, "0.0 1.-1"},
		// An archive within an archive is no object.
		{[][]byte{start, archive(archive(a))}, "0.-1"},
	} {
		comes(t, "P19.2", x.inputs, "_start", x.want)
	}
}

// TestPickKinds: P19.2: which symbols make a name wanted, and which define it.
func TestPickKinds(t *testing.T) {
	for _, asks := range []string{"?:a", "?w:a"} {
		for _, kind := range []string{"", "w:", "c:", "cw:", "a:", "aw:", "?:", "?w:", "l:", "la:"} {
			want := "0.-1"
			if asks == "?:a" && !slices.Contains([]string{"?:", "?w:", "l:", "la:"}, kind) {
				want = "0.-1 1.1"
			}
			member := object(t, "x "+kind+"a y")
			comes(t, "P19.2: "+asks+" and "+kind+"a", [][]byte{object(t, "_start "+asks), archive(object(t, "b"), member, member)}, "_start", want)
		}
	}
	comes(t, "P19.2", [][]byte{object(t, "w:a ?:a"), archive(object(t, "a"))}, "_start", "0.-1")
	comes(t, "P19.2", [][]byte{object(t, "c:a"), object(t, "?:a"), archive(object(t, "a"))}, "_start", "0.-1 1.-1")
	comes(t, "P19.2", [][]byte{object(t, "?w:a"), object(t, "?:a"), archive(object(t, "a"))}, "_start", "0.-1 1.-1 2.0")
	comes(t, "P19.2", [][]byte{object(t, "l:a"), object(t, "?:a"), archive(object(t, "a"))}, "_start", "0.-1 1.-1 2.0")
	comes(t, "P19.2", [][]byte{object(t, "?w:a"), archive(object(t, "a"), object(t, "_start ?:a"))}, "_start", "0.-1 1.1 1.0")
	comes(t, "P19.2", [][]byte{object(t, "?w:a"), archive(object(t, "a"), object(t, "_start"))}, "_start", "0.-1 1.1")
}

// TestPickEntry: P19.2: the entry is wanted from the beginning on, whatever its name is, until something defines it.
func TestPickEntry(t *testing.T) {
	a, b := object(t, "a ?:b"), object(t, "b _start")
	inputs := [][]byte{archive(a, b), object(t, "w:c"), archive(object(t, "a"), object(t, "c"), object(t, "d ?:e"), object(t, "e"))}
	for entry, want := range map[string]string{
		"a":      "0.0 0.1 1.-1",
		"b":      "0.1 1.-1",
		"_start": "0.1 1.-1",
		"c":      "1.-1",
		"d":      "1.-1 2.2 2.3",
		"e":      "1.-1 2.3",
		"f":      "1.-1",
		"":       "1.-1",
		"a\x00":  "1.-1",
		"A":      "1.-1",
	} {
		comes(t, "P19.2", inputs, entry, want)
	}
	long := strings.Repeat("n", api.MaxName)
	comes(t, "P19.2", [][]byte{archive(a, object(t, long))}, long, "0.1")
	comes(t, "P19.2", [][]byte{archive(a, object(t, long))}, long+"n", "")
	comes(t, "P19.2", [][]byte{archive(a, object(t, "é\xff"))}, "é\xff", "0.1")
}

// TestPickRounds: P19.2: round by round: who comes in a round may be asked for by one that came in the same round ahead of it, or in one before.
func TestPickRounds(t *testing.T) {
	start := object(t, "_start ?:0")
	// Each asks for the next number; they stand in any order.
	chain := func(numbers ...int) []byte {
		var files [][]byte
		for _, n := range numbers {
			files = append(files, object(t, fmt.Sprintf("%d ?:%d", n, n+1)))
		}
		return archive(files...)
	}
	comes(t, "P19.2", [][]byte{start, chain(0, 1, 2, 3)}, "_start", "0.-1 1.0 1.1 1.2 1.3")
	comes(t, "P19.2", [][]byte{start, chain(3, 2, 1, 0)}, "_start", "0.-1 1.3 1.2 1.1 1.0")
	comes(t, "P19.2", [][]byte{start, chain(2, 0, 3, 1)}, "_start", "0.-1 1.1 1.3 1.0 1.2")
	comes(t, "P19.2", [][]byte{start, chain(1, 3, 0, 2)}, "_start", "0.-1 1.2 1.0 1.3 1.1")
	comes(t, "P19.2", [][]byte{start, chain(3, 1, 0)}, "_start", "0.-1 1.2 1.1")
	comes(t, "P19.2", [][]byte{start, chain(4, 3, 2, 1)}, "_start", "0.-1")
	comes(t, "P19.2", [][]byte{start, chain(2, 1), chain(1, 0), chain(2, 1)}, "_start", "0.-1 2.1 2.0 3.0")
	comes(t, "P19.2", [][]byte{start, chain(0, 0, 1, 1, 0)}, "_start", "0.-1 1.0 1.2")
	// One of two that define a name comes; which one hangs on who is met first when it is wanted.
	comes(t, "P19.2", [][]byte{start, archive(object(t, "1"), object(t, "0 ?:1"), object(t, "1"))}, "_start", "0.-1 1.1 1.2")
	comes(t, "P19.2", [][]byte{start, archive(object(t, "1"), object(t, "0 ?:1"), object(t, "2"))}, "_start", "0.-1 1.1 1.0")
	// Round and round.
	comes(t, "P19.2", [][]byte{start, archive(object(t, "1 ?:0 ?:_start"), object(t, "0 ?:1"))}, "_start", "0.-1 1.1 1.0")
}

// TestPickMany: P19.2: at most 40 inputs, of whatever kind; one more, and what is wrong with them isn't told.
func TestPickMany(t *testing.T) {
	start, junk := object(t, "_start"), []byte("junk")
	for _, b := range [][]byte{start, archive(), archive(start), junk, nil} {
		for _, n := range []int{41, 42, 100, 5000} {
			inputs := slices.Repeat([][]byte{b}, n)
			fails(t, fmt.Sprint(n, " inputs"), inputs, -1, api.ErrMany)
		}
	}
	var want []string
	for i := range 40 {
		want = append(want, fmt.Sprintf("%d.-1", i))
		comes(t, "P19.2", slices.Repeat([][]byte{start}, i+1), "_start", strings.Join(want, " "))
		comes(t, "P19.2", slices.Repeat([][]byte{archive(start)}, i+1), "_start", "0.0")
		fails(t, "the last is junk", append(slices.Repeat([][]byte{start}, i), junk), i, api.ErrHead)
	}
}

// TestPickHead: P19.2: an input that is of no kind, however it begins.
func TestPickHead(t *testing.T) {
	start := object(t, "_start")
	for _, b := range []string{"", "\x7f", "\x7fEL", "ELF", "junk", "!", "!<arch>", "!<arch>\r\n", "!<thin>\n", " !<arch>\n", "\x00\x7fELF", strings.Repeat("\x00", 200)} {
		fails(t, fmt.Sprintf("%q", b), [][]byte{start, []byte(b)}, 1, api.ErrHead)
		fails(t, fmt.Sprintf("%q", b), [][]byte{[]byte(b), start}, 0, api.ErrHead)
	}
	fails(t, "nil", [][]byte{nil}, 0, api.ErrHead)
	fails(t, "nil", [][]byte{start, nil, nil}, 1, api.ErrHead)
}

// TestPickLength: P19.2: an input of 2^20 bytes is read, one of a byte more isn't, whatever it is.
func TestPickLength(t *testing.T) {
	start := object(t, "_start")
	padded := func(b []byte, n int) []byte { return append(bytes.Clone(b), make([]byte, n-len(b))...) }
	comes(t, "P19.2", [][]byte{padded(start, 1<<20-1)}, "_start", "0.-1")
	comes(t, "P19.2", [][]byte{padded(start, 1<<20)}, "_start", "0.-1")
	fails(t, "an object, too long", [][]byte{start, padded(start, 1<<20+1)}, 1, api.ErrHead)
	ahead := len(archive(start)) - len(start)
	most := archive(padded(start, 1<<20-ahead))
	if len(most) != 1<<20 {
		t.Fatalf("an archive of %d bytes", len(most))
	}
	comes(t, "P19.2", [][]byte{most}, "_start", "0.0")
	fails(t, "an archive, too long", [][]byte{start, archive(padded(start, 1<<20-ahead+2))}, 1, api.ErrHead)
	fails(t, "an archive, a byte behind it", [][]byte{append(bytes.Clone(most), '\n')}, 0, api.ErrHead)
	fails(t, "no archive, and too long", [][]byte{padded([]byte("!<arch>\n"), 1<<20+1)}, 0, api.ErrHead)
	fails(t, "no archive, not too long", [][]byte{padded([]byte("!<arch>\n"), 1<<20)}, 0, api.ErrAr)
	fails(t, "junk, too long", [][]byte{padded(nil, 1<<20+1)}, 0, api.ErrHead)
	// A member that is too long is one in an archive that is.
	fails(t, "a member, too long", [][]byte{archive(padded(start, 1<<20+1))}, 0, api.ErrHead)
}

// wrong: a file of each error that an input may have.
func wrong(t *testing.T) map[api.Errno][]byte {
	t.Helper()
	o := with("a")
	o.Sects[0].Rels = []api.Rela{{Off: 0, Type: api.R32, Sym: 1}}
	o.Groups = []api.Group{{Sig: "a", Members: []int{0}}}
	b, e := emit.Write(o)
	if e != api.OK {
		t.Fatal(e)
	}
	// Each of its bytes is changed in turn, until there is a file of each error.
	files := map[api.Errno][]byte{
		api.ErrAr:    []byte("!<arch>\nx"),
		api.ErrArmap: indexed([]byte("xy"), b),
	}
	for i := range b {
		bad := bytes.Clone(b)
		bad[i] ^= 0x41
		if _, e := obj.Read(bad); e != api.OK && files[e] == nil && head.Kind(bad) == 1 {
			files[e] = bad
		}
	}
	return files
}

// TestPickErrors: P19.2: each error, of the first input that has one, wherever it stands, whoever wants something of it.
func TestPickErrors(t *testing.T) {
	files := wrong(t)
	if len(files) != 7 {
		t.Fatalf("P19.2: files of %d errors", len(files))
	}
	start := object(t, "_start ?:a")
	right := [][]byte{start, archive(object(t, "a")), archive(), archive([]byte("junk")), object(t, "b")}
	for e, bad := range files {
		for i := range len(right) + 1 {
			fails(t, "one that is wrong", slices.Insert(slices.Clone(right), i, bad), i, e)
		}
		for other, worse := range files {
			fails(t, "two that are wrong", [][]byte{start, bad, start, worse}, 1, e)
			fails(t, "two that are wrong", [][]byte{worse, start, bad}, 0, other)
		}
		fails(t, "nothing else", [][]byte{bad}, 0, e)
		// What is wrong with a member isn't told.
		comes(t, "P19.2", [][]byte{start, archive(bad, object(t, "a"), bad)}, "_start", "0.-1 1.1")
	}
}

// TestPickIndex: P19.2: an index must be a right one; what it says of its members says nothing.
func TestPickIndex(t *testing.T) {
	start, a, b := object(t, "_start ?:a"), object(t, "a"), object(t, "b")
	for _, index := range []string{"x", "\x00\x00\x00\x01", "\x00\x00\x00\x01\x00\x00\x00\x00a", "\x00\x00\x00\x00\x00", "\x01\x00\x00\x00\x00\x00\x00\x00a\x00"} {
		fails(t, fmt.Sprintf("the index %q", index), [][]byte{start, indexed([]byte(index), a)}, 1, api.ErrArmap)
	}
	names := armap.Bytes(api.Entry{Name: "a"})
	fails(t, "names, but no member", [][]byte{start, indexed(names)}, 1, api.ErrArmap)
	comes(t, "P19.2", [][]byte{start, indexed(armap.Bytes())}, "_start", "0.-1")
	comes(t, "P19.2", [][]byte{start, indexed(names, []byte("junk"))}, "_start", "0.-1")
	fails(t, "no index, no archive", [][]byte{start, indexed([]byte("x"), a)[:90]}, 1, api.ErrAr)
	for _, entries := range [][]api.Entry{nil, {{Name: "a", Member: 1}}, {{Name: "a", Member: 0}}, {{Name: "b", Member: 1}}, {{Name: "_start", Member: 0}, {Name: "a", Member: 99}}} {
		comes(t, "P19.2", [][]byte{start, indexed(armap.Bytes(entries...), b, a)}, "_start", "0.-1 1.1")
	}
}

// TestPickNumbers: P19.2: a member's number is that among members; the index and long names, which stand ahead of them, aren't counted, and names of members say nothing.
func TestPickNumbers(t *testing.T) {
	start, a, b := object(t, "_start ?:a"), object(t, "a"), object(t, "b")
	long := strings.Repeat("long", 20)
	l := []api.Member{{Name: long, B: b}, {Name: long, B: []byte("junk")}, {Name: long + "2", B: a}, {Name: "a", B: b}}
	comes(t, "P19.2", [][]byte{start, ar.Write(l, armap.Bytes(armap.Build(l)...))}, "_start", "0.-1 1.2")
	comes(t, "P19.2", [][]byte{start, ar.Write(l, nil)}, "_start", "0.-1 1.2")
	comes(t, "P19.2", [][]byte{b, archive(), start, ar.Write(l, nil)}, "_start", "0.-1 2.-1 3.2")
}

// TestPickCut: P19.2: an object, a member, an archive that is cut at any place, or has any byte changed.
func TestPickCut(t *testing.T) {
	start, a := object(t, "_start ?:a"), object(t, "l:here a w:b")
	whole := indexed(armap.Bytes(api.Entry{Name: "a"}, api.Entry{Name: "b"}), []byte("odd"), a)
	came, stayed, bad := 0, 0, 0
	try := func(what string, b []byte) {
		l, _, e := checked(t, what, [][]byte{start, b, archive(a)}, "_start")
		switch {
		case e != api.OK:
			bad++
		case len(l) > 1 && l[1].Input == 1:
			came++
		default:
			stayed++
		}
	}
	for _, b := range [][]byte{a, whole} {
		for n := range len(b) + 1 {
			try(fmt.Sprint("cut at ", n), b[:n])
			try(fmt.Sprint("a member, cut at ", n), archive(b[:n]))
		}
		for i := range b {
			for _, x := range []byte{0, 1, 0x20, 0x7f, 0xff} {
				changed := bytes.Clone(b)
				changed[i] = x
				try(fmt.Sprint("byte ", i, " is ", x), changed)
				try(fmt.Sprint("a member, byte ", i, " is ", x), archive(changed))
			}
		}
	}
	if came < 500 || stayed < 500 || bad < 500 {
		t.Errorf("P19.2: %d came, %d stayed out, %d were wrong", came, stayed, bad)
	}
}

// TestPickObjects: P19.2: each that comes is told whole, as obj.Read reads it.
func TestPickObjects(t *testing.T) {
	full := with("l:here a ?:b")
	full.Sects = append(full.Sects, api.Sect{Name: ".bss", Zero: true, Flags: 3, Align: 8, Size: 64}, api.Sect{Name: ".g", Flags: 2, Align: 1, Size: 8, Data: []byte("8 bytes."), Rels: []api.Rela{{Off: 0, Type: api.R64, Sym: 3, Add: -1}}})
	full.Groups = []api.Group{{Sig: "a", Members: []int{2}}}
	b, e := emit.Write(full)
	if e != api.OK {
		t.Fatal(e)
	}
	want := []api.Picked{{Input: 0, Member: -1, O: with("_start ?:a")}, {Input: 1, Member: 1, O: full}}
	l, at, e := Pick([][]byte{object(t, "_start ?:a"), archive(object(t, "c"), b)}, "_start")
	if !same(l, want) || at != 0 || e != api.OK {
		t.Errorf("P19.2: %+v, %d, %v, wanted %+v", l, at, e, want)
	}
	want = []api.Picked{{Member: -1, O: full}, {Input: 1, Member: -1, O: full}}
	if l, at, e := Pick([][]byte{b, b}, "_start"); !same(l, want) || at != 0 || e != api.OK {
		t.Errorf("P19.2: %+v, %d, %v, wanted %+v", l, at, e, want)
	}
}

// TestPickMost: P19.2: as many archives of as many members as there may be, of which one comes in each round: this ends in time.
func TestPickMost(t *testing.T) {
	inputs := [][]byte{object(t, "?:n0")}
	want := []string{"0.-1"}
	for i := range api.MaxInputs - 1 {
		files := make([][]byte, api.MaxMembers)
		for k := range files {
			n := i*api.MaxMembers + k
			last := len(files) - 1 - k
			files[last] = object(t, fmt.Sprintf("n%d ?:n%d d%d w:e f g?h ?w:i", n, n+1, n))
			want = append(want, fmt.Sprintf("%d.%d", i+1, last))
		}
		inputs = append(inputs, archive(files...))
	}
	l, at, e := Pick(inputs, "_start")
	if told(l) != strings.Join(want, " ") || at != 0 || e != api.OK {
		t.Errorf("P19.2: %d came, %d, %v, wanted %d", len(l), at, e, len(want))
	}
}

// anyInputs: few inputs, archives mostly; a part of their members are no objects.
func anyInputs(t *testing.T, rnd *rand.Rand) [][]byte {
	var inputs [][]byte
	for range rnd.Intn(5) {
		if rnd.Intn(3) == 0 {
			inputs = append(inputs, object(t, anyTexts(rnd, 12)))
			continue
		}
		var files [][]byte
		for range rnd.Intn(7) {
			// Many of them ask for two others, so that a few come in a later round.
			b := object(t, anyTexts(rnd, 12))
			if rnd.Intn(3) > 0 {
				b = object(t, fmt.Sprintf("%c ?:%c ?:%c", 'a'+rnd.Intn(12), 'a'+rnd.Intn(12), 'a'+rnd.Intn(12)))
			}
			if rnd.Intn(10) == 0 {
				b = b[rnd.Intn(9):]
			}
			files = append(files, b)
		}
		inputs = append(inputs, archive(files...))
	}
	return inputs
}

// TestPickAny: P19.2, P19.3: any inputs, held against the chapter's words; whoever came was wanted, and in the end nobody of an archive that is the last one is.
func TestPickAny(t *testing.T) {
	rnd := rand.New(rand.NewSource(192))
	again, out, bad := 0, 0, 0
	for range 8000 {
		inputs := anyInputs(t, rnd)
		if rnd.Intn(12) == 0 && len(inputs) > 0 {
			b := inputs[rnd.Intn(len(inputs))]
			b[rnd.Intn(min(len(b), 80))] ^= 1 << rnd.Intn(8)
		}
		entry := string(rune('a' + rnd.Intn(12)))
		l, _, e := checked(t, "any inputs", inputs, entry)
		if e != api.OK {
			bad++
			continue
		}
		for i, p := range l {
			wanted := plainWants(l[:i], entry)
			if p.Member >= 0 && !slices.ContainsFunc(plainDefines(p.O), func(name string) bool { return slices.Contains(wanted, name) }) {
				t.Fatalf("P19.3: %d.%d came, which nothing wants", p.Input, p.Member)
			}
			if i > 0 && p.Input == l[i-1].Input && p.Member < l[i-1].Member {
				again++
			}
		}
		if n := len(inputs) - 1; n >= 0 && head.Kind(inputs[n]) == 2 {
			members, _, _ := ar.Read(inputs[n])
			for k, m := range members {
				if plainComes(l, entry, n, k, m) {
					t.Fatalf("P19.2: %d.%d stayed out, which is wanted", n, k)
				}
				out++
			}
		}
	}
	if again < 200 || out < 1000 || bad < 100 {
		t.Errorf("P19.2: %d came in a later round, %d were asked in the end, %d inputs were wrong", again, out, bad)
	}
}

// TestPickOwnMemory: P19.2: inputs stay as they are, the spare room behind them included, and aren't kept; what is answered is new memory, each part of it its own.
func TestPickOwnMemory(t *testing.T) {
	start, a := object(t, "_start ?:a"), object(t, "a")
	both := archive(a)
	spare := func(b []byte) []byte { return append(bytes.Clone(b), "spare"...)[:len(b)] }
	inputs := [][]byte{spare(start), spare(both), spare(start), []byte("spare")}
	inputs[2] = inputs[0]
	old := [][]byte{append(start, "spare"...), append(both, "spare"...), append(start, "spare"...), []byte("spare")}
	want := []api.Picked{{Input: 0, Member: -1, O: with("_start ?:a")}, {Input: 1, Member: 0, O: with("a")}, {Input: 2, Member: -1, O: with("_start ?:a")}}
	unchanged := func() bool {
		for i, b := range inputs {
			if i < 3 && !bytes.Equal(b[:len(b)+5], old[i]) || i == 3 && !bytes.Equal(b, old[i]) {
				return false
			}
		}
		return true
	}
	l, _, e := Pick(inputs[:3], "_start")
	if !same(l, want) || e != api.OK || !unchanged() {
		t.Errorf("P19.2: Pick changed its inputs, or is wrong: %s, %v", told(l), e)
	}
	for _, b := range inputs[:3] {
		clear(b)
	}
	if !same(l, want) {
		t.Errorf("P19.2: Pick kept its inputs: %+v", l)
	}
	for i, b := range inputs[:3] {
		copy(b, old[i])
	}
	clear(l[0].O.Sects[0].Data)
	clear(l[0].O.Syms)
	clear(l[0].O.Sects)
	if !same(l[1:], want[1:]) || !unchanged() {
		t.Errorf("P19.2: what Pick told shares memory: %+v", l)
	}
	clear(l[:cap(l)])
	if again, _, e := Pick(inputs[:3], "_start"); !same(again, want) || e != api.OK {
		t.Errorf("P19.2: Pick again: %s, %v", told(again), e)
	}
}

// TestStaysOut: P19.3: what nothing wants stays out: an archive of such members says nothing, wherever it stands.
func TestStaysOut(t *testing.T) {
	inputs := [][]byte{object(t, "_start ?:a ?w:weak"), archive(object(t, "b"), object(t, "a ?:b"))}
	plain, _, _ := Pick(inputs, "_start")
	if told(plain) != "0.-1 1.1 1.0" {
		t.Fatalf("P19.3: %s", told(plain))
	}
	unwanted := [][]byte{
		archive(),
		archive([]byte("junk"), nil),
		archive(object(t, "")),
		archive(object(t, "c ?:d"), object(t, "d ?:c")),
		archive(object(t, "weak"), object(t, "w:weak")),
		archive(object(t, "?:a ?:b ?:_start ?w:c")),
		archive(object(t, "l:a l:b l:_start lf")),
		indexed(armap.Bytes(api.Entry{Name: "a"}, api.Entry{Name: "_start"}), object(t, "c")),
	}
	for k, b := range unwanted {
		for at := range len(inputs) + 1 {
			more := slices.Insert(slices.Clone(inputs), at, b)
			l, _, e := checked(t, "an archive more", more, "_start")
			for i := range l {
				if l[i].Input > at {
					l[i].Input--
				}
			}
			if !same(l, plain) || e != api.OK {
				t.Errorf("P19.3: archive %d at %d: %s, %v", k, at, told(l), e)
			}
		}
	}
}

// TestSameAgain: P19.2: the same inputs again have the same answer, whatever order a map is gone through in.
func TestSameAgain(t *testing.T) {
	rnd := rand.New(rand.NewSource(193))
	for range 100 {
		inputs := anyInputs(t, rnd)
		first, _, _ := Pick(inputs, "a")
		wanted := Wants(first, "a")
		for range 10 {
			again, _, _ := Pick(inputs, "a")
			if !same(again, first) || !slices.Equal(Wants(again, "a"), wanted) {
				t.Fatalf("P19.2: %s, ahead of it %s", told(again), told(first))
			}
		}
	}
}
