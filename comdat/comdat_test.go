package comdat

import (
	"bytes"
	"fmt"
	"math"
	"math/rand"
	"reflect"
	"slices"
	"sort"
	"strconv"
	"strings"
	"testing"

	"dovetail/api"
	"dovetail/ar"
	"dovetail/emit"
	"dovetail/obj"
	"dovetail/pick"
)

// object: an object of a short text: a letter for each section ("x" to be run, "w" to be written, "c" neither, "z" of zeros; "n" without ShfAlloc), and behind it groups, parted by spaces: a signature, ":", and sections' digits.
func object(text string) api.Object {
	words := strings.Split(text, " ")
	o := api.Object{Syms: []api.Sym{{}}}
	for i, c := range words[0] {
		s := api.Sect{Name: fmt.Sprint(".s", i), Flags: api.ShfAlloc, Align: 1, Size: 4, Data: []byte("data")}
		switch c {
		case 'x':
			s.Flags |= api.ShfExec
		case 'w':
			s.Flags |= api.ShfWrite
		case 'z':
			s.Flags |= api.ShfWrite
			s.Zero, s.Data = true, nil
		case 'n':
			s.Flags = 0
		}
		o.Sects = append(o.Sects, s)
	}
	for _, word := range words[1:] {
		sig, digits, _ := strings.Cut(word, ":")
		g := api.Group{Sig: sig}
		for _, d := range digits {
			g.Members = append(g.Members, int(d-'0'))
		}
		o.Groups = append(o.Groups, g)
		o.Syms = append(o.Syms, api.Sym{Name: sig, Bind: api.BindWeak})
	}
	return o
}

// picked: objects that came in that order.
func picked(l ...api.Object) []api.Picked {
	var out []api.Picked
	for i, o := range l {
		out = append(out, api.Picked{Input: i, Member: -1, O: o})
	}
	return out
}

// objects: objects of such texts, as if they had come.
func objects(texts ...string) []api.Picked {
	var l []api.Object
	for _, text := range texts {
		l = append(l, object(text))
	}
	return picked(l...)
}

// told: what is kept, as text: of each object a digit for each section.
func told(kept [][]bool) string {
	var rows []string
	for _, row := range kept {
		text := "."
		for _, k := range row {
			text += map[bool]string{false: "0", true: "1"}[k]
		}
		rows = append(rows, text)
	}
	return strings.Join(rows, " ")
}

// plainHas: whether one of those groups has that signature.
func plainHas(groups []api.Group, sig string) bool {
	return slices.ContainsFunc(groups, func(g api.Group) bool { return g.Sig == sig })
}

// plainIsKept: the chapter's words about section s of object i.
func plainIsKept(l []api.Picked, i, s int) bool {
	o := l[i].O
	if o.Sects[s].Flags&2 == 0 {
		return false
	}
	inNone := true
	for k, g := range o.Groups {
		if !slices.Contains(g.Members, s) {
			continue
		}
		inNone = false
		ahead := slices.ContainsFunc(l[:i], func(p api.Picked) bool { return plainHas(p.O.Groups, g.Sig) })
		if !ahead && !plainHas(o.Groups[:k], g.Sig) {
			return true
		}
	}
	return inNone
}

// plainKept: the chapter's words about all sections.
func plainKept(l []api.Picked) [][]bool {
	var kept [][]bool
	for i, p := range l {
		row := []bool{}
		for s := range p.O.Sects {
			row = append(row, plainIsKept(l, i, s))
		}
		kept = append(kept, row)
	}
	return kept
}

// plainSigns: the chapter's words about signatures.
func plainSigns(l []api.Picked) []string {
	var signs []string
	for _, p := range l {
		for _, g := range p.O.Groups {
			if !slices.Contains(signs, g.Sig) {
				signs = append(signs, g.Sig)
			}
		}
	}
	sort.Slice(signs, func(i, j int) bool { return bytes.Compare([]byte(signs[i]), []byte(signs[j])) < 0 })
	return signs
}

// checked: what is kept of l, as text; that and l's signatures were held against the chapter's words.
func checked(t *testing.T, l []api.Picked) string {
	t.Helper()
	kept := told(Kept(l))
	if want := told(plainKept(l)); kept != want {
		t.Fatalf("P20.1: Kept: %s, wanted %s: %s", kept, want, shown(l))
	}
	if signs := Signs(l); !slices.Equal(signs, plainSigns(l)) {
		t.Fatalf("P20.1: Signs: %q, wanted %q: %s", signs, plainSigns(l), shown(l))
	}
	return kept
}

// shown: l's flags and groups, as text.
func shown(l []api.Picked) string {
	var texts []string
	for _, p := range l {
		var flags []uint64
		for _, s := range p.O.Sects {
			flags = append(flags, s.Flags)
		}
		texts = append(texts, fmt.Sprint(flags, p.O.Groups))
	}
	return strings.Join(texts, "; ")
}

// readable: that an object of text is one such as obj.Read tells.
func readable(t *testing.T, o api.Object) {
	t.Helper()
	if e := obj.Check(o); e != api.OK {
		t.Fatalf("an object that can't be read: %+v: %v", o, e)
	}
}

// TestKept: P20.1: sections in no group, in groups that are the first of their signature, in such that aren't, by an object ahead or by their own; sections without ShfAlloc.
func TestKept(t *testing.T) {
	for _, c := range []struct {
		texts []string
		want  string
	}{
		{nil, ""},
		{[]string{""}, "."},
		{[]string{"", "", ""}, ". . ."},
		{[]string{"xwczn"}, ".11110"},
		{[]string{"xwczn", "n", "", "nx"}, ".11110 .0 . .01"},
		// One group.
		{[]string{"x a:0"}, ".1"},
		{[]string{"n a:0"}, ".0"},
		{[]string{"xwczn a:01234"}, ".11110"},
		{[]string{"xwczn a:13"}, ".11110"},
		{[]string{"x a:"}, ".1"},
		{[]string{" a:"}, "."},
		// The example: two objects with a group each of one signature.
		{[]string{"x a:0", "x a:0"}, ".1 .0"},
		{[]string{"x a:0", "x b:0"}, ".1 .1"},
		{[]string{"x a:0", "x a:0", "x a:0"}, ".1 .0 .0"},
		{[]string{"x a:0", "x b:0", "x a:0", "x b:0"}, ".1 .1 .0 .0"},
		{[]string{"x b:0", "x a:0"}, ".1 .1"},
		{[]string{"x b:0", "x a:0", "x b:0"}, ".1 .1 .0"},
		{[]string{"x a:0", "", "x", "x a:0"}, ".1 . .1 .0"},
		// Of a later group all members are dropped, and those alone.
		{[]string{"xwczn a:01234", "xwczn a:01234"}, ".11110 .00000"},
		{[]string{"x a:0", "xwczn a:02"}, ".1 .01010"},
		{[]string{"x a:0", "xwczn a:13"}, ".1 .10100"},
		{[]string{"x a:0", "xwczn a:4"}, ".1 .11110"},
		{[]string{"xwczn a:01", "x a:0"}, ".11110 .0"},
		{[]string{"x a:0", "xwczn a:0 b:1 c:2"}, ".1 .01110"},
		{[]string{"x b:0", "xwczn a:0 b:1 c:2"}, ".1 .10110"},
		{[]string{"x c:0", "xwczn a:0 b:1 c:2"}, ".1 .11010"},
		{[]string{"xwc a:0 b:1 c:2", "xwc c:0 b:1 d:2", "xwc d:0 a:1 e:2"}, ".111 .001 .001"},
		// In one object.
		{[]string{"xx a:0 a:1"}, ".10"},
		{[]string{"xx a:1 a:0"}, ".01"},
		{[]string{"xxx a:0 b:1 a:2"}, ".110"},
		{[]string{"xxx b:2 a:1 b:0"}, ".011"},
		{[]string{"xxxx a:0 a:1 a:2 a:3"}, ".1000"},
		{[]string{"xx a:0 a:1", "xx a:0 a:1"}, ".10 .00"},
		{[]string{"xx a:0 b:1", "xx b:0 c:1", "xxx c:0 a:1"}, ".11 .01 .001"},
		// A group counts as the first one, whatever of it is kept.
		{[]string{"x a:", "x a:0"}, ".1 .0"},
		{[]string{"x a: a:0"}, ".0"},
		{[]string{"x a:0 a:"}, ".1"},
		{[]string{" a:", " a:", "x a:0"}, ". . .0"},
		{[]string{"n a:0", "x a:0"}, ".0 .0"},
		{[]string{"nx a:0 a:1"}, ".00"},
		{[]string{"x a:0", "n a:0", "x a:0"}, ".1 .0 .0"},
		// Signatures are alike only byte by byte.
		{[]string{"x a:0", "x A:0", "x aa:0", "x á:0", "x a\xff:0"}, ".1 .1 .1 .1 .1"},
		{[]string{"x a\xff:0", "x a\xfe:0", "x a\xff:0"}, ".1 .1 .0"},
		{[]string{"x " + strings.Repeat("a", 199) + "b:0", "x " + strings.Repeat("a", 200) + ":0", "x " + strings.Repeat("a", 199) + "b:0", "x " + strings.Repeat("a", 199) + ":0"}, ".1 .1 .0 .1"},
	} {
		for _, text := range c.texts {
			readable(t, object(text))
		}
		if got := checked(t, objects(c.texts...)); got != c.want {
			t.Errorf("P20.1: %q: %s, wanted %s", c.texts, got, c.want)
		}
	}
}

// TestKeptEachFlags: P20.1: of a section's flags ShfAlloc alone is asked, in no group, a first one, and a later one.
func TestKeptEachFlags(t *testing.T) {
	for _, size := range []uint64{0, 8} {
		for flags := range uint64(64) {
			sect := api.Sect{Name: "any", Flags: flags&7 | flags>>3<<4, Align: 4096, Size: size, Data: make([]byte, size), Rels: []api.Rela{{Type: api.R64}}}
			one := api.Object{Sects: []api.Sect{sect}, Groups: []api.Group{{Sig: "a", Members: []int{0}}}}
			l := picked(api.Object{Sects: []api.Sect{sect, sect}}, one, one)
			want := ".00 .0 .0"
			if flags&2 != 0 {
				want = ".11 .1 .0"
			}
			if got := checked(t, l); got != want {
				t.Errorf("P20.1: flags %x, %d bytes: %s, wanted %s", sect.Flags, size, got, want)
			}
		}
	}
	for _, flags := range []uint64{1 << 63, math.MaxUint64 &^ 2, 1 << 32, 1 << 9} {
		o := api.Object{Sects: []api.Sect{{Flags: flags}, {Flags: flags | 2}}}
		if got := checked(t, picked(o)); got != ".01" {
			t.Errorf("P20.1: flags %x: %s", flags, got)
		}
	}
}

// TestKeptGroupsAlone: P20.1: what makes groups alike is their Sig: neither names of sections, nor symbols, nor the members' numbers, nor where an object came from.
func TestKeptGroupsAlone(t *testing.T) {
	a, b := object("xw a:0"), object("xw b:0")
	for _, o := range []*api.Object{&a, &b} {
		o.Sects[0].Name, o.Sects[1].Name = "a", "b"
		o.Syms = append(o.Syms, api.Sym{Name: "a", Bind: api.BindGlobal, Sect: 1}, api.Sym{Name: "b", Bind: api.BindWeak, Sect: 2})
	}
	plain := object("xw")
	plain.Sects[0].Name, plain.Syms = "a", append(plain.Syms, api.Sym{Name: "a", Bind: api.BindGlobal, Sect: 1})
	if got := checked(t, picked(plain, a, b, plain)); got != ".11 .11 .11 .11" {
		t.Errorf("P20.1: names that are no signatures: %s", got)
	}
	if got := checked(t, picked(object("xxx a:02"), object("zn a:0"), object("xwc b:1 a:2"))); got != ".111 .00 .110" {
		t.Errorf("P20.1: groups with other members: %s", got)
	}
	l := picked(a, b, a)
	for i, p := range []api.Picked{{Input: 7, Member: 3}, {Input: 7, Member: 3}, {Input: 2, Member: -1}} {
		l[i].Input, l[i].Member = p.Input, p.Member
	}
	if got := checked(t, l); got != ".11 .11 .01" {
		t.Errorf("P20.1: objects count in their order in the list: %s", got)
	}
	if got := checked(t, picked(a, a)); got != ".11 .01" {
		t.Errorf("P20.1: an object that came twice: %s", got)
	}
}

// TestSigns: P20.1: all groups' Sigs, each once, in order of bytes: of groups that are kept and that aren't, with members and without.
func TestSigns(t *testing.T) {
	long := strings.Repeat("s", api.MaxName)
	for _, c := range []struct {
		texts []string
		want  []string
	}{
		{nil, nil},
		{[]string{"", ""}, nil},
		{[]string{"xwczn"}, nil},
		{[]string{"x a:0"}, []string{"a"}},
		{[]string{" a:"}, []string{"a"}},
		{[]string{"n a:0"}, []string{"a"}},
		{[]string{"x a:0", "x a:0", "x a:0"}, []string{"a"}},
		{[]string{"xx a:0 a:1"}, []string{"a"}},
		{[]string{"xx b:0 a:1"}, []string{"a", "b"}},
		{[]string{"x b:0", "x a:0"}, []string{"a", "b"}},
		{[]string{"x c:0", "x", "xx a:0 c:1", "xx b:0 a:1"}, []string{"a", "b", "c"}},
		{[]string{" b: 10: é: a: _: aa: Z: 9: \xff: a0: ab: B: aZ:"}, []string{"10", "9", "B", "Z", "_", "a", "a0", "aZ", "aa", "ab", "b", "é", "\xff"}},
		{[]string{" " + long + ": " + long[1:] + ":", " " + long[2:] + "t: " + long + ":"}, []string{long[1:], long, long[2:] + "t"}},
	} {
		if got := Signs(objects(c.texts...)); !slices.Equal(got, c.want) {
			t.Errorf("P20.1: %q: %q, wanted %q", c.texts, got, c.want)
		}
	}
}

// TestEmptyLists: P20.1: lists that are nil and such that are empty are the same.
func TestEmptyLists(t *testing.T) {
	if got := Kept([]api.Picked{}); len(got) != 0 {
		t.Errorf("P20.1: Kept of no object: %v", got)
	}
	if got := Signs([]api.Picked{}); len(got) != 0 {
		t.Errorf("P20.1: Signs of no object: %q", got)
	}
	empty := api.Object{Sects: []api.Sect{}, Syms: []api.Sym{}, Groups: []api.Group{}}
	sect := []api.Sect{{Flags: 2}}
	none := api.Group{Sig: "a", Members: []int{}}
	l := picked(empty, api.Object{}, api.Object{Sects: sect, Groups: []api.Group{}}, api.Object{Sects: sect, Groups: []api.Group{none}}, api.Object{Sects: sect, Groups: []api.Group{{Sig: "a"}, {Sig: "a", Members: []int{0}}}})
	if got := checked(t, l); got != ". . .1 .1 .0" {
		t.Errorf("P20.1: empty lists: %s", got)
	}
}

// layouts: all objects of two sections and up to two groups: each section in one of these, or in none.
func layouts() []api.Object {
	var l []api.Object
	for _, sects := range []string{"xx", "xn"} {
		for _, groups := range []string{"", " a:", " b:", " a:0", " a:1", " a:01", " b:01", " a:0 a:1", " a:0 b:1", " b:0 a:1", " b:1 a:0", " a: a:01", " a:01 a:", " b: a:01", " a:1 b:"} {
			l = append(l, object(sects+groups))
		}
	}
	return l
}

// TestKeptEachThree: P20.1: any three of many small objects, in any order.
func TestKeptEachThree(t *testing.T) {
	all := layouts()
	for _, o := range all {
		readable(t, o)
	}
	for _, a := range all {
		for _, b := range all {
			for _, c := range all {
				checked(t, picked(a, b, c))
			}
		}
	}
}

// anyObject: an object of up to ten sections, each in no group, or in one, such as obj.Read tells.
func anyObject(rnd *rand.Rand) api.Object {
	text := ""
	for range rnd.Intn(11) {
		text += string("xwczn"[rnd.Intn(5)])
	}
	o := object(text)
	for range rnd.Intn(6) {
		o.Groups = append(o.Groups, api.Group{Sig: string(rune('a' + rnd.Intn(12)))})
	}
	for s := range o.Sects {
		if k := rnd.Intn(1 + 2*len(o.Groups)); k < len(o.Groups) {
			o.Groups[k].Members = append(o.Groups[k].Members, s)
		}
	}
	for _, g := range o.Groups {
		o.Syms = append(o.Syms, api.Sym{Name: g.Sig, Bind: api.BindWeak})
	}
	return o
}

// anyObjects: up to seven of them.
func anyObjects(rnd *rand.Rand) []api.Picked {
	var l []api.Object
	for range rnd.Intn(8) {
		l = append(l, anyObject(rnd))
	}
	return picked(l...)
}

// keeps: whether of that group's sections with ShfAlloc each is kept, and whether none is.
func keeps(o api.Object, g api.Group, kept []bool) (all, none bool) {
	all, none = true, true
	for _, s := range g.Members {
		if o.Sects[s].Flags&api.ShfAlloc != 0 {
			all, none = all && kept[s], none && !kept[s]
		}
	}
	return all, none
}

// TestOneOfEach: P20.2: of any objects, of each signature just one group is kept, whole, and of the others nothing.
func TestOneOfEach(t *testing.T) {
	rnd := rand.New(rand.NewSource(202))
	whole, dropped := 0, 0
	for range 20000 {
		l := anyObjects(rnd)
		checked(t, l)
		kept := Kept(l)
		for _, sig := range Signs(l) {
			met := false
			for i, p := range l {
				for _, g := range p.O.Groups {
					if g.Sig != sig {
						continue
					}
					all, none := keeps(p.O, g, kept[i])
					if !met && !all || met && !none {
						t.Fatalf("P20.2: signature %q, object %d: %s: %s", sig, i, told(kept), shown(l))
					}
					if met {
						dropped++
					} else {
						whole++
					}
					met = true
				}
			}
			if !met {
				t.Fatalf("P20.2: no group has signature %q", sig)
			}
		}
	}
	if whole < 50000 || dropped < 50000 {
		t.Errorf("P20.2: %d groups were kept, %d dropped", whole, dropped)
	}
}

// TestKeptSomeMore: P20.1: objects behind others change nothing of what these keep, and what has a signature that no other has is kept wherever it stands.
func TestKeptSomeMore(t *testing.T) {
	rnd := rand.New(rand.NewSource(203))
	for range 3000 {
		l := anyObjects(rnd)
		want := Kept(l)
		more := append(slices.Clone(l), anyObjects(rnd)...)
		if got := Kept(more)[:len(l)]; told(got) != told(want) {
			t.Fatalf("P20.1: %s, with objects behind them %s: %s", told(want), told(got), shown(more))
		}
		at := rnd.Intn(len(l) + 1)
		lone := slices.Insert(slices.Clone(l), at, picked(object("xn own:01"))...)
		if got := told(Kept(lone)[at : at+1]); got != ".10" {
			t.Fatalf("P20.1: a group of a signature of its own: %s: %s", got, shown(lone))
		}
	}
}

// file: the bytes of an object of such a text.
func file(t *testing.T, text string) []byte {
	t.Helper()
	b, e := emit.Write(object(text))
	if e != api.OK {
		t.Fatalf("an object that can't be written: %s: %v", text, e)
	}
	return b
}

// TestOfFiles: P20.1, P20.2: objects that were written and read, of inputs and of archives, in the order in which they came.
func TestOfFiles(t *testing.T) {
	wants := object("x a:0")
	wants.Syms = append(wants.Syms, api.Sym{Name: "f", Bind: api.BindGlobal}, api.Sym{Name: "g", Bind: api.BindGlobal})
	first, e := emit.Write(wants)
	if e != api.OK {
		t.Fatal(e)
	}
	member := func(text, name string) []byte {
		o := object(text)
		o.Syms = append(o.Syms, api.Sym{Name: name, Bind: api.BindGlobal, Sect: 1})
		b, e := emit.Write(o)
		if e != api.OK {
			t.Fatal(e)
		}
		return b
	}
	lib := ar.Write([]api.Member{{Name: "out", B: member("x b:0", "nobody")}, {Name: "g", B: member("xxx a:0 b:1", "g")}, {Name: "f", B: member("xxn b:0 c:12", "f")}}, nil)
	l, _, e := pick.Pick([][]byte{first, lib, file(t, "xwcz b:0 c:1 a:3"), file(t, "nz d:01")}, "f")
	if e != api.OK || len(l) != 5 {
		t.Fatalf("%d came, %v", len(l), e)
	}
	if got := checked(t, l); got != ".1 .011 .010 .0010 .01" {
		t.Errorf("P20.1: %s", got)
	}
	if got := strings.Join(Signs(l), " "); got != "a b c d" {
		t.Errorf("P20.1: %s", got)
	}
}

// TestKeptMost: P20.1: as many objects as there may be, each of as many sections, each of these in a group of its own: this ends in time.
func TestKeptMost(t *testing.T) {
	var l []api.Picked
	for i := range api.MaxInputs * api.MaxMembers {
		o := api.Object{Sects: make([]api.Sect, api.MaxSects)}
		for s := range o.Sects {
			// Each object has half of its signatures from the one ahead.
			o.Sects[s].Flags = api.ShfAlloc
			o.Groups = append(o.Groups, api.Group{Sig: "s" + strconv.Itoa(i*api.MaxSects/2+s), Members: []int{s}})
		}
		l = append(l, api.Picked{Input: i / api.MaxMembers, Member: i % api.MaxMembers, O: o})
	}
	kept := Kept(l)
	if len(kept) != len(l) {
		t.Fatalf("P20.1: %d rows of %d objects", len(kept), len(l))
	}
	for i, row := range kept {
		for s, k := range row {
			if want := i == 0 || s >= api.MaxSects/2; k != want {
				t.Fatalf("P20.1: object %d, section %d: %v", i, s, k)
			}
		}
	}
	signs := Signs(l)
	if want := (len(l) + 1) * api.MaxSects / 2; len(signs) != want || !slices.IsSorted(signs) || len(slices.Compact(signs)) != want {
		t.Errorf("P20.1: %d signatures, wanted %d", len(signs), want)
	}
}

// TestKeptMany: P20.1: so many objects, groups, members that they can't be held against each other one by one, or this doesn't end in time.
func TestKeptMany(t *testing.T) {
	const many = 1 << 18
	l := make([]api.Picked, many)
	for i := range l {
		l[i].O = api.Object{Sects: make([]api.Sect, 2), Groups: []api.Group{{Sig: strconv.Itoa(i / 2), Members: []int{i % 2}}}}
		l[i].O.Sects[0].Flags, l[i].O.Sects[1].Flags = api.ShfAlloc, api.ShfAlloc
	}
	for i, row := range Kept(l) {
		if len(row) != 2 || !row[0] || row[1] != (i%2 == 0) {
			t.Fatalf("P20.1: object %d of many: %v", i, row)
		}
	}
	if got := Signs(l); len(got) != many/2 {
		t.Errorf("P20.1: %d signatures of many objects", len(got))
	}
	one := api.Object{Sects: make([]api.Sect, many), Groups: make([]api.Group, 2*many)}
	for s := range one.Sects {
		one.Sects[s].Flags = api.ShfAlloc
		one.Groups[s] = api.Group{Sig: strconv.Itoa(s % (many / 2)), Members: []int{many - 1 - s}}
		one.Groups[many+s] = api.Group{Sig: "empty"}
	}
	for s, k := range Kept(picked(one))[0] {
		if k != (s >= many/2) {
			t.Fatalf("P20.1: section %d of many: %v", s, k)
		}
	}
	if got := Signs(picked(one)); len(got) != many/2+1 {
		t.Errorf("P20.1: %d signatures of many groups", len(got))
	}
}

// TestWrongObjects: P20.1: calls end at objects that obj.Read never tells: members that are no sections, that stand in several groups, or again and again; and tell a row for each of them.
func TestWrongObjects(t *testing.T) {
	rnd := rand.New(rand.NewSource(204))
	numbers := []int{-1, 0, 1, 2, 3, 4, 100, 1 << 32, math.MinInt, math.MaxInt, math.MinInt + 1}
	right := object("xn b:0")
	for range 20000 {
		var l []api.Object
		for range rnd.Intn(4) {
			o := api.Object{Sects: make([]api.Sect, rnd.Intn(4))}
			for s := range o.Sects {
				o.Sects[s] = api.Sect{Zero: rnd.Intn(2) == 0, Flags: rnd.Uint64(), Align: rnd.Uint64(), Size: rnd.Uint64()}
			}
			for range rnd.Intn(4) {
				g := api.Group{Sig: []string{"", "a", "a\x00", strings.Repeat("a", 201)}[rnd.Intn(4)]}
				for range rnd.Intn(5) {
					g.Members = append(g.Members, numbers[rnd.Intn(len(numbers))])
				}
				o.Groups = append(o.Groups, g)
			}
			l = append(l, o)
		}
		kept := Kept(picked(append(l, right)...))
		Signs(picked(l...))
		if len(kept) != len(l)+1 || told(kept[len(l):]) != ".10" {
			t.Fatalf("P20.1: %s: %s", told(kept), shown(picked(l...)))
		}
		for i, o := range l {
			if len(kept[i]) != len(o.Sects) {
				t.Fatalf("P20.1: %d sections, wanted %d", len(kept[i]), len(o.Sects))
			}
		}
	}
}

// TestOwnMemory: P20.1: what is handed in is neither changed nor kept, the spare room behind it included; what is answered is new memory, each row its own.
func TestOwnMemory(t *testing.T) {
	texts := []string{"xwn b:0 a:12", "xxx a:0 b:1", "", "xz", "xx c:0 b:1"}
	const want = ".110 .001 . .11 .10"
	l := objects(texts...)
	for i, p := range l {
		// Behind each list there stands what would change the answer.
		l[i].O.Sects = append(slices.Clone(p.O.Sects), api.Sect{Flags: 2})[:len(p.O.Sects)]
		l[i].O.Groups = append(slices.Clone(p.O.Groups), api.Group{Sig: "spare", Members: []int{0}}, api.Group{Sig: "c"})[:len(p.O.Groups)]
		for k, g := range p.O.Groups {
			l[i].O.Groups[k].Members = append(slices.Clone(g.Members), 0, 1, 2)[:len(g.Members)]
		}
	}
	l = append(l, objects("xx spare:0")...)[:len(l)]
	kept, signs := Kept(l), Signs(l)
	if got := told(kept); got != want || !slices.Equal(signs, []string{"a", "b", "c"}) {
		t.Fatalf("P20.1: %s, %q", got, signs)
	}
	if !reflect.DeepEqual(l, unspared(texts)) || told(Kept(l[:len(l)+1])) != want+" .11" {
		t.Errorf("P20.1: what was handed in was changed: %s", shown(l))
	}
	for i := range l {
		o := &l[i].O
		for k, g := range o.Groups {
			spare := g.Members[:len(g.Members)+3]
			if !slices.Equal(spare[len(g.Members):], []int{0, 1, 2}) {
				t.Errorf("P20.1: object %d, group %d: spare room was changed: %v", i, k, spare)
			}
		}
		if sects, groups := o.Sects[:len(o.Sects)+1], o.Groups[:len(o.Groups)+2]; sects[len(o.Sects)].Flags != 2 || groups[len(o.Groups)].Sig != "spare" || groups[len(o.Groups)+1].Sig != "c" {
			t.Errorf("P20.1: object %d: spare room was changed", i)
		}
		clear(o.Sects)
		clear(o.Groups)
	}
	clear(l)
	if got := told(kept); got != want || !slices.Equal(signs, []string{"a", "b", "c"}) {
		t.Errorf("P20.1: what was handed in was kept: %s, %q", got, signs)
	}
	for i := range kept {
		rest := told(kept[i+1:])
		row := kept[i][:cap(kept[i])]
		for s := range row {
			row[s] = !row[s]
		}
		if told(kept[i+1:]) != rest {
			t.Errorf("P20.1: row %d shares memory with another one", i)
		}
	}
	clear(signs[:cap(signs)])
	again := objects(texts...)
	if got := told(Kept(again)); got != want || !slices.Equal(Signs(again), []string{"a", "b", "c"}) {
		t.Errorf("P20.1: again: %s, %q", got, Signs(again))
	}
}

// unspared: the objects of texts, with lists as long as those that have spare room behind them.
func unspared(texts []string) []api.Picked {
	l := objects(texts...)
	for i := range l {
		if l[i].O.Sects == nil {
			l[i].O.Sects = []api.Sect{}
		}
		if l[i].O.Groups == nil {
			l[i].O.Groups = []api.Group{}
		}
	}
	return l
}

// TestSameAgain: P20.1: the same objects again have the same answers, whatever order a map is gone through in, and whatever was asked ahead.
func TestSameAgain(t *testing.T) {
	rnd := rand.New(rand.NewSource(205))
	for range 200 {
		l := anyObjects(rnd)
		kept, signs := told(Kept(l)), Signs(l)
		for range 10 {
			other := anyObjects(rnd)
			Kept(other)
			Signs(other)
			if told(Kept(l)) != kept || !slices.Equal(Signs(l), signs) {
				t.Fatalf("P20.1: %s, %q, ahead of it %s, %q", told(Kept(l)), Signs(l), kept, signs)
			}
		}
	}
}
