package syms

import (
	"bytes"
	"fmt"
	"math"
	"math/rand"
	"reflect"
	"slices"
	"sort"
	"strconv"
	"strings"
	"testing"

	"dovetail/api"
	"dovetail/ar"
	"dovetail/comdat"
	"dovetail/emit"
	"dovetail/obj"
	"dovetail/pick"
)

// The sections of the objects below, from 1 on.
const (
	inText    = iota + 1 // kept, in no group
	inBss                // kept, zeros
	inNote               // without ShfAlloc, in no group
	inOwn                // kept, in a group of its own signature
	inOwnNote            // without ShfAlloc, in that group
	inDup                // in a group whose signature the first object's group has, too
	inDupNote            // without ShfAlloc, in that group
	sections  = iota
)

// objectOf: an object of seven sections, as above; its number makes a signature its own. First its symbols that are local, then the others.
func objectOf(number int, syms ...api.Sym) api.Object {
	var o api.Object
	for _, flags := range []uint64{6, 3, 0, 2, 1, 6, 0} {
		s := api.Sect{Name: fmt.Sprint(".s", len(o.Sects)), Flags: flags, Align: 4, Size: 64, Data: make([]byte, 64)}
		if len(o.Sects)+1 == inBss {
			s.Zero, s.Data = true, nil
		}
		o.Sects = append(o.Sects, s)
	}
	own := "own" + strconv.Itoa(number)
	o.Groups = []api.Group{{Sig: own, Members: []int{inOwn - 1, inOwnNote - 1}}, {Sig: "dup", Members: []int{inDup - 1, inDupNote - 1}}}
	o.Syms = append(o.Syms, api.Sym{}, api.Sym{Name: own, Sect: api.Abs}, api.Sym{Name: "dup", Sect: api.Abs})
	for _, local := range []bool{true, false} {
		for _, s := range syms {
			if (s.Bind == api.BindLocal) == local {
				o.Syms = append(o.Syms, s)
			}
		}
	}
	return o
}

// sym: a symbol of a short text: its name, ":", its binding's letter ("g", "w", "l"; "f" of a local one that is SymFile), its place ("?" Undef, "a" Abs, "c" Common, or a section's digit), and, after a "+" each, Value and Size.
func sym(text string) api.Sym {
	name, rest, _ := strings.Cut(text, ":")
	s := api.Sym{Name: name}
	switch rest[0] {
	case 'g':
		s.Bind = api.BindGlobal
	case 'w':
		s.Bind = api.BindWeak
	case 'f':
		s.Type = api.SymFile
	}
	switch rest[1] {
	case '?':
	case 'a':
		s.Sect = api.Abs
	case 'c':
		s.Sect = api.Common
	default:
		s.Sect = int(rest[1] - '0')
	}
	for i, n := range strings.Split(rest[2:], "+") {
		v, _ := strconv.ParseUint(n, 10, 64)
		switch i {
		case 1:
			s.Value = v
		case 2:
			s.Size = v
		}
	}
	return s
}

// objects: an object ahead that has the group "dup" and no symbols for others (number 0), and behind it one (from number 1 on) for each text, which has symbols' texts, parted by spaces.
func objects(texts ...string) []api.Picked {
	l := []api.Picked{{Member: -1, O: objectOf(0)}}
	for i, text := range texts {
		var syms []api.Sym
		for _, word := range strings.Fields(text) {
			syms = append(syms, sym(word))
		}
		l = append(l, api.Picked{Input: i + 1, Member: -1, O: objectOf(i+1, syms...)})
	}
	return l
}

// told: defs as text: of each its name, its kind's letter, and what else isn't 0.
func told(defs []api.Def) string {
	var texts []string
	for _, d := range defs {
		text := d.Name + "=" + string("NSAC"[d.Kind])
		for i, n := range []uint64{uint64(d.Obj), uint64(d.Sect), d.Value, d.Size, d.Align} {
			if n != 0 {
				text += fmt.Sprintf(" %c%d", "osvza"[i], n)
			}
		}
		texts = append(texts, text)
	}
	return strings.Join(texts, ", ")
}

// What a symbol is to its name, in the chapter's words.
const (
	saysNothing = iota
	isUndef
	definesCommon
	definesElse
)

// plainSays: P21.1's first sentence of symbol s of object i.
func plainSays(l []api.Picked, kept [][]bool, i int, s api.Sym) int {
	switch {
	case s.Bind != 1 && s.Bind != 2:
		return saysNothing
	case s.Sect == 0:
		return isUndef
	case s.Sect == 0xfff1:
		return definesElse
	case s.Sect == 0xfff2:
		return definesCommon
	case kept[i][s.Sect-1]:
		return definesElse
	}
	for _, g := range l[i].O.Groups {
		if slices.Contains(g.Members, s.Sect-1) {
			return saysNothing
		}
	}
	return isUndef
}

// said: a symbol that says something: its object's number, itself, what it says.
type said struct {
	obj  int
	s    api.Sym
	says int
}

// plainSaid: all that say something, in order; of that name, or of all, if all is told.
func plainSaid(l []api.Picked, kept [][]bool, name string, all bool) []said {
	var out []said
	for i, p := range l {
		for _, s := range p.O.Syms {
			if says := plainSays(l, kept, i, s); says != saysNothing && (all || s.Name == name) {
				out = append(out, said{i, s, says})
			}
		}
	}
	return out
}

// plainDef: P21.1's second sentence of a name, of which these say something; false of one that has no Def.
func plainDef(l []said, name string) (api.Def, bool) {
	at := func(x said) api.Def {
		if x.s.Sect == 0xfff1 {
			return api.Def{Name: name, Kind: api.DefAbs, Obj: x.obj, Value: x.s.Value}
		}
		return api.Def{Name: name, Kind: api.DefSect, Obj: x.obj, Sect: x.s.Sect - 1, Value: x.s.Value}
	}
	for _, x := range l {
		if x.s.Bind == 1 && x.says == definesElse {
			return at(x), true
		}
	}
	common := api.Def{Name: name, Kind: api.DefCommon, Obj: -1}
	for _, x := range l {
		if x.says != definesCommon {
			continue
		}
		if common.Obj < 0 {
			common.Obj = x.obj
		}
		common.Size, common.Align = max(common.Size, x.s.Size), max(common.Align, x.s.Value)
	}
	if common.Obj >= 0 {
		return common, true
	}
	for _, x := range l {
		if x.s.Bind == 2 && x.says == definesElse {
			return at(x), true
		}
	}
	for _, x := range l {
		if x.s.Bind == 1 && x.says == isUndef {
			return api.Def{}, false
		}
	}
	return api.Def{Name: name}, true
}

// plainTwice: P21.2's first sentence; false where there is no such object.
func plainTwice(l []said) (int, bool) {
	for k, x := range l {
		for _, y := range l[:k] {
			if x.s.Name == y.s.Name && x.s.Bind == 1 && y.s.Bind == 1 && x.says == definesElse && y.says == definesElse {
				return x.obj, true
			}
		}
	}
	return 0, false
}

// plainResolve: the chapter's words about all names.
func plainResolve(l []api.Picked, kept [][]bool) ([]api.Def, int, api.Errno) {
	all := plainSaid(l, kept, "", true)
	if i, twice := plainTwice(all); twice {
		return nil, i, 51
	}
	var names []string
	for _, x := range all {
		if !slices.Contains(names, x.s.Name) {
			names = append(names, x.s.Name)
		}
	}
	sort.Slice(names, func(i, j int) bool { return bytes.Compare([]byte(names[i]), []byte(names[j])) < 0 })
	for _, x := range all {
		if _, has := plainDef(plainSaid(l, kept, x.s.Name, false), x.s.Name); !has && x.s.Bind == 1 && x.says == isUndef {
			return nil, x.obj, 52
		}
	}
	var defs []api.Def
	for _, name := range names {
		d, _ := plainDef(plainSaid(l, kept, name, false), name)
		defs = append(defs, d)
	}
	return defs, 0, 0
}

// plainOf: P21.3's words about a symbol.
func plainOf(l []api.Picked, kept [][]bool, defs []api.Def, obj int, sym uint32) (api.Def, api.Errno) {
	if obj < 0 || obj >= len(l) || int64(sym) >= int64(len(l[obj].O.Syms)) {
		return api.Def{}, 52
	}
	s := l[obj].O.Syms[sym]
	switch {
	case s.Bind != 0:
		for _, d := range defs {
			if d.Name == s.Name {
				return d, 0
			}
		}
		return api.Def{}, 52
	case sym == 0, s.Type == 4:
		return api.Def{Name: s.Name, Kind: 0}, 0
	case s.Sect == 0xfff1:
		return api.Def{Name: s.Name, Kind: 2, Obj: obj, Value: s.Value}, 0
	case kept[obj][s.Sect-1]:
		return api.Def{Name: s.Name, Kind: 1, Obj: obj, Sect: s.Sect - 1, Value: s.Value}, 0
	}
	return api.Def{}, 53
}

// shown: what l's objects say, as text.
func shown(l []api.Picked) string {
	var texts []string
	for _, p := range l {
		texts = append(texts, fmt.Sprint(p.O.Syms))
	}
	return strings.Join(texts, "; ")
}

// checked: what Resolve answers of l, having been held against the chapter's words, as is what Of answers of each of its symbols.
func checked(t *testing.T, l []api.Picked) ([]api.Def, int, api.Errno) {
	t.Helper()
	kept := comdat.Kept(l)
	defs, at, e := Resolve(l, kept)
	want, wantAt, wantE := plainResolve(l, kept)
	if !slices.Equal(defs, want) || at != wantAt || e != wantE {
		t.Fatalf("P21.1, P21.2: %s; %d, %v, wanted %s; %d, %v: %s", told(defs), at, e, told(want), wantAt, wantE, shown(l))
	}
	for i := -1; i <= len(l); i++ {
		syms := 2
		if i >= 0 && i < len(l) {
			syms += len(l[i].O.Syms)
		}
		for k := range uint32(syms) {
			d, e := Of(l, kept, defs, i, k)
			if want, wantE := plainOf(l, kept, defs, i, k); d != want || e != wantE {
				t.Fatalf("P21.3: symbol %d of object %d: %+v, %v, wanted %+v, %v: %s", k, i, d, e, want, wantE, shown(l))
			}
		}
	}
	return defs, at, e
}

// readable: that objects of texts are such as obj.Read tells.
func readable(t *testing.T, l []api.Picked) {
	t.Helper()
	for _, p := range l {
		if e := obj.Check(p.O); e != api.OK {
			t.Fatalf("an object that can't be read: %+v: %v", p.O, e)
		}
	}
}

// TestResolve: P21.1: each kind of symbol alone, and of several which one counts.
func TestResolve(t *testing.T) {
	for _, c := range []struct {
		texts []string
		want  string
	}{
		{nil, ""},
		{[]string{""}, ""},
		{[]string{"", ""}, ""},
		// One symbol.
		{[]string{"a:g1"}, "a=S o1"},
		{[]string{"a:g1+8+16"}, "a=S o1 v8"},
		{[]string{"a:g2+64"}, "a=S o1 s1 v64"},
		{[]string{"a:g4+4"}, "a=S o1 s3 v4"},
		{[]string{"a:w1+8+16"}, "a=S o1 v8"},
		{[]string{"a:w2"}, "a=S o1 s1"},
		{[]string{"a:w4"}, "a=S o1 s3"},
		{[]string{"a:ga+7+9"}, "a=A o1 v7"},
		{[]string{"a:wa+18446744073709551615+9"}, "a=A o1 v18446744073709551615"},
		{[]string{"a:gc+8+50"}, "a=C o1 z50 a8"},
		{[]string{"a:wc+1+0"}, "a=C o1 a1"},
		{[]string{"a:gc+4096+67108864"}, "a=C o1 z67108864 a4096"},
		{[]string{"a:w?"}, "a=N"},
		{[]string{"a:w?+5+6"}, "a=N"},
		{[]string{"a:w3+5+6"}, "a=N"},
		{[]string{"", "a:w?"}, "a=N"},
		{[]string{"a:g5", "a:w5"}, ""},
		{[]string{"a:g6", "a:w6"}, ""},
		{[]string{"a:g7", "a:w7"}, ""},
		{[]string{"a:l1 b:la f:fa"}, ""},
		{[]string{"", "", "a:g1+3"}, "a=S o3 v3"},
		// Several names.
		{[]string{"b:g1+1 a:g2+2"}, "a=S o1 s1 v2, b=S o1 v1"},
		{[]string{"c:g1+1 a:wa+2", "d:w? b:gc+4+9"}, "a=A o1 v2, b=C o2 z9 a4, c=S o1 v1, d=N"},
		{[]string{"a:g1 aa:g1 A:g1 _:g1 10:g1 9:g1 é:g1 a\xff:g1 a0:g1"}, "10=S o1, 9=S o1, A=S o1, _=S o1, a=S o1, a0=S o1, aa=S o1, a\xff=S o1, é=S o1"},
		// The global one that defines it, wherever it stands, whatever else there is.
		{[]string{"a:g1+1 a:w1+2"}, "a=S o1 v1"},
		{[]string{"a:w1+2 a:g1+1"}, "a=S o1 v1"},
		{[]string{"a:w1+2", "a:g2+1"}, "a=S o2 s1 v1"},
		{[]string{"a:g2+1", "a:w1+2"}, "a=S o1 s1 v1"},
		{[]string{"a:gc+8+9", "a:g1+1"}, "a=S o2 v1"},
		{[]string{"a:g1+1", "a:gc+8+9"}, "a=S o1 v1"},
		{[]string{"a:wc+8+9 a:ga+1 a:gc+16+99"}, "a=A o1 v1"},
		{[]string{"a:g?", "a:w? a:wc+1+1 a:w1", "a:g4+1", "a:g? a:gc+1+1"}, "a=S o3 s3 v1"},
		{[]string{"a:l1+5", "a:g1+6", "a:la+7"}, "a=S o2 v6"},
		// Else commons, of whatever binding: the greatest of all.
		{[]string{"a:gc+8+5", "a:gc+4+50"}, "a=C o1 z50 a8"},
		{[]string{"a:gc+4+50", "a:gc+8+5"}, "a=C o1 z50 a8"},
		{[]string{"a:wc+4+50", "a:gc+8+5"}, "a=C o1 z50 a8"},
		{[]string{"a:gc+4+50", "a:wc+8+5"}, "a=C o1 z50 a8"},
		{[]string{"a:wc+4+50", "a:wc+8+5"}, "a=C o1 z50 a8"},
		{[]string{"a:wc+2+1 a:wc+4+3", "a:gc+1+2 a:gc+1+7 a:wc+64+0"}, "a=C o1 z7 a64"},
		{[]string{"", "a:gc+1+0", "a:gc+1+0"}, "a=C o2 a1"},
		{[]string{"a:w1+3", "a:wc+4+5"}, "a=C o2 z5 a4"},
		{[]string{"a:w1+3 a:gc+4+5"}, "a=C o1 z5 a4"},
		{[]string{"a:wa+3 a:wc+4+5", "a:gc+1+6"}, "a=C o1 z6 a4"},
		{[]string{"a:g?", "a:gc+4+5", "a:w?"}, "a=C o2 z5 a4"},
		{[]string{"a:g3+1", "a:gc+4+5", "a:g6+1"}, "a=C o2 z5 a4"},
		{[]string{"a:gc+1+2", "a:g5"}, "a=C o1 z2 a1"},
		{[]string{"a:gc+1+2", "b:gc+8+1"}, "a=C o1 z2 a1, b=C o2 z1 a8"},
		// Else the first weak one that defines it.
		{[]string{"a:w1+1", "a:w1+2"}, "a=S o1 v1"},
		{[]string{"a:w1+2 a:w1+1"}, "a=S o1 v2"},
		{[]string{"a:w2+9", "a:wa+1"}, "a=S o1 s1 v9"},
		{[]string{"a:wa+9", "a:w1+1"}, "a=A o1 v9"},
		{[]string{"a:w?", "a:w3+4", "a:w6+5", "a:w1+6", "a:w1+7"}, "a=S o4 v6"},
		{[]string{"a:g?", "a:w1+6"}, "a=S o2 v6"},
		{[]string{"a:w1+6", "a:g?", "a:g3"}, "a=S o1 v6"},
		// Else none.
		{[]string{"a:w?", "a:w?"}, "a=N"},
		{[]string{"a:w3", "a:w?"}, "a=N"},
		{[]string{"a:w? a:g5 a:g6 a:g7"}, "a=N"},
		{[]string{"a:w3", "a:l1"}, "a=N"},
		// Names are alike only byte by byte.
		{[]string{"a:g1+1", "A:g1+2", "aa:g1+3", "a\x00:g1+4"}, "A=S o2 v2, a=S o1 v1, a\x00=S o4 v4, aa=S o3 v3"},
	} {
		defs, at, e := checked(t, objects(c.texts...))
		if got := told(defs); got != c.want || at != 0 || e != api.OK {
			t.Errorf("P21.1: %q: %s; %d, %v, wanted %s", c.texts, got, at, e, c.want)
		}
	}
}

// TestErrors: P21.2: names that are defined twice, of which object, ahead of names that aren't defined.
func TestErrors(t *testing.T) {
	for _, c := range []struct {
		texts []string
		at    int
		e     api.Errno
	}{
		// Twice.
		{[]string{"a:g1 a:g1"}, 1, api.ErrTwice},
		{[]string{"a:g1+4 a:g2+8"}, 1, api.ErrTwice},
		{[]string{"a:ga a:ga"}, 1, api.ErrTwice},
		{[]string{"a:g1 a:ga"}, 1, api.ErrTwice},
		{[]string{"a:ga", "a:g4"}, 2, api.ErrTwice},
		{[]string{"a:g1", "a:g1"}, 2, api.ErrTwice},
		{[]string{"", "a:g1", "", "a:g1", "a:g1"}, 4, api.ErrTwice},
		{[]string{"z:g1", "a:g1", "z:g1", "a:g1"}, 3, api.ErrTwice},
		{[]string{"a:g1", "z:g1", "z:g1", "a:g1"}, 3, api.ErrTwice},
		{[]string{"a:g1", "b:g1", "b:g1 a:g1"}, 3, api.ErrTwice},
		{[]string{"a:w1 a:gc+1+1 a:g?", "a:g1", "a:w? a:wc+1+1 a:w1 a:g?", "a:g2"}, 4, api.ErrTwice},
		{[]string{"a:gc+1+1", "a:gc+1+1", "a:g1", "a:g1"}, 4, api.ErrTwice},
		{[]string{"a:g4", "a:g4"}, 2, api.ErrTwice},
		// Not twice.
		{[]string{"a:g1", "a:gc+1+1", "a:gc+1+1", "a:w1", "a:wa", "a:wc+1+1", "a:g?", "a:w?", "a:g3", "a:g5", "a:g6", "a:g7", "a:l1", "a:la"}, 0, api.OK},
		{[]string{"a:g1", "b:g1", "A:g1"}, 0, api.OK},
		{[]string{"a:w1", "a:w1"}, 0, api.OK},
		{[]string{"a:g1", "a:g6", "a:g6"}, 0, api.OK},
		// Twice, though names that aren't defined stand ahead.
		{[]string{"u:g?", "a:g1 a:g2"}, 2, api.ErrTwice},
		{[]string{"u:g?", "u:g?", "z:g1", "z:g1"}, 4, api.ErrTwice},
		{[]string{"a:g1 a:g1", "u:g?"}, 1, api.ErrTwice},
		// Not defined.
		{[]string{"a:g?"}, 1, api.ErrUndef},
		{[]string{"", "", "a:g?", "a:g?"}, 3, api.ErrUndef},
		{[]string{"a:g?+5+6"}, 1, api.ErrUndef},
		{[]string{"a:w?", "a:g?"}, 2, api.ErrUndef},
		{[]string{"a:w? a:g?"}, 1, api.ErrUndef},
		{[]string{"a:g?", "a:w?"}, 1, api.ErrUndef},
		{[]string{"a:g3"}, 1, api.ErrUndef},
		{[]string{"a:w3", "a:g3"}, 2, api.ErrUndef},
		{[]string{"a:g?", "a:g6 a:g5 a:g7"}, 1, api.ErrUndef},
		{[]string{"a:g6", "a:g?"}, 2, api.ErrUndef},
		{[]string{"a:w6 a:w5", "a:g?"}, 2, api.ErrUndef},
		{[]string{"a:l1", "a:g?"}, 2, api.ErrUndef},
		{[]string{"a:g? a:la"}, 1, api.ErrUndef},
		{[]string{"z:g?", "a:g?"}, 1, api.ErrUndef},
		{[]string{"a:g?", "z:g?"}, 1, api.ErrUndef},
		{[]string{"z:g? a:g1", "z:g1", "m:g?", "b:g?", "a:g?"}, 3, api.ErrUndef},
		{[]string{"m:w?", "z:g?", "m:g?"}, 2, api.ErrUndef},
		{[]string{"a:g?", "A:g1", "aa:g1", "a\x00:g1"}, 1, api.ErrUndef},
		// Defined.
		{[]string{"a:g?", "a:g1"}, 0, api.OK},
		{[]string{"a:g?", "a:ga"}, 0, api.OK},
		{[]string{"a:g?", "a:gc+1+1"}, 0, api.OK},
		{[]string{"a:g?", "a:w1"}, 0, api.OK},
		{[]string{"a:g?", "a:wa"}, 0, api.OK},
		{[]string{"a:g?", "a:wc+1+1"}, 0, api.OK},
		{[]string{"a:g?", "a:g4"}, 0, api.OK},
		{[]string{"a:w? b:w3"}, 0, api.OK},
	} {
		defs, at, e := checked(t, objects(c.texts...))
		if at != c.at || e != c.e || e != api.OK && defs != nil {
			t.Errorf("P21.2: %q: %s; %d, %v, wanted %d, %v", c.texts, told(defs), at, e, c.at, c.e)
		}
	}
	// The first object has number 0.
	l := []api.Picked{{O: objectOf(1, sym("a:g?"))}}
	if defs, at, e := checked(t, l); defs != nil || at != 0 || e != api.ErrUndef {
		t.Errorf("P21.2: %s; %d, %v", told(defs), at, e)
	}
	l[0].O = objectOf(1, sym("a:g1"), sym("a:g1"))
	if defs, at, e := checked(t, l); defs != nil || at != 0 || e != api.ErrTwice {
		t.Errorf("P21.2: %s; %d, %v", told(defs), at, e)
	}
	l = []api.Picked{{O: objectOf(1, sym("z:g?"))}, {O: objectOf(2, sym("a:g?"))}}
	if defs, at, e := checked(t, l); defs != nil || at != 0 || e != api.ErrUndef {
		t.Errorf("P21.2: %s; %d, %v", told(defs), at, e)
	}
}

// TestNumbers: P21.2: the numbers that are told, and those that Defs have, are of the list: where an object came from says nothing.
func TestNumbers(t *testing.T) {
	l := objects("a:g1+1", "b:ga", "c:gc+1+1")
	for i, n := range []int{7, 7, -3, 2} {
		l[i].Input, l[i].Member = n, 10-n
	}
	defs, _, _ := checked(t, l)
	if got := told(defs); got != "a=S o1 v1, b=A o2, c=C o3 z1 a1" {
		t.Errorf("P21.1: %s", got)
	}
	l = append(l, api.Picked{Input: 1, Member: -1, O: objectOf(9, sym("u:g?"))})
	if _, at, e := checked(t, l); at != 4 || e != api.ErrUndef {
		t.Errorf("P21.2: %d, %v", at, e)
	}
	l = append(l, l[1])
	if _, at, e := checked(t, l); at != 5 || e != api.ErrTwice {
		t.Errorf("P21.2: an object that came twice: %d, %v", at, e)
	}
}

// TestDropped: P21.1: of a group that came twice what the first one says counts, and what its others say doesn't, as if it weren't there.
func TestDropped(t *testing.T) {
	first := objectOf(1, sym("f:g6+4"), sym("v:w6+8"), sym("n:g7"))
	first.Groups[1].Sig, first.Syms[2].Name = "f", "f"
	second := objectOf(2, sym("f:g6+12"), sym("v:w6+16"), sym("n:g7"), sym("h:w?"))
	second.Groups[1].Sig, second.Syms[2].Name = "f", "f"
	l := []api.Picked{{O: first}, {O: second}, {O: second}, {O: objectOf(3, sym("f:g?"), sym("v:g?"))}}
	readable(t, l)
	defs, _, e := checked(t, l)
	if got := told(defs); got != "f=S s5 v4, h=N, v=S s5 v8" || e != api.OK {
		t.Errorf("P21.1: %s, %v", got, e)
	}
	// What stands in a group that was dropped is called by its name's meaning, or by none.
	l = []api.Picked{{O: first}, {O: objectOf(3, sym("f:w?"))}, {O: second}}
	l[0].O.Syms = l[0].O.Syms[:3]
	if defs, _, e = checked(t, l); told(defs) != "f=N, h=N" || e != api.OK {
		t.Errorf("P21.1: %s, %v", told(defs), e)
	}
	l[1].O = objectOf(3, sym("f:g?"))
	if _, at, e := checked(t, l); at != 1 || e != api.ErrUndef {
		t.Errorf("P21.2: %d, %v", at, e)
	}
}

// TestKeptIsAsked: P21.1, P21.3: what is kept is told by kept alone: flags aren't looked at, nor is which group is the first one.
func TestKeptIsAsked(t *testing.T) {
	l := []api.Picked{{O: objectOf(0, sym("l:l1"), sym("a:w1"), sym("b:w3"), sym("c:w4"), sym("d:w6"), sym("e:w7"))}}
	for bits := range 1 << sections {
		kept := [][]bool{make([]bool, sections)}
		for s := range sections {
			kept[0][s] = bits>>s&1 != 0
		}
		defs, at, e := Resolve(l, kept)
		want, _, _ := plainResolve(l, kept)
		if !slices.Equal(defs, want) || at != 0 || e != api.OK {
			t.Errorf("P21.1: kept %v: %s, wanted %s", kept, told(defs), told(want))
		}
		for k := range l[0].O.Syms {
			d, e := Of(l, kept, defs, 0, uint32(k))
			if want, wantE := plainOf(l, kept, defs, 0, uint32(k)); d != want || e != wantE {
				t.Errorf("P21.3: kept %v: symbol %d: %+v, %v, wanted %+v, %v", kept, k, d, e, want, wantE)
			}
		}
	}
}

// kinds: symbols of one name, of each kind.
func kinds(name string) []api.Sym {
	var l []api.Sym
	for _, text := range strings.Fields("l1+3 la+9 g?+1+2 w? ga+7 wa+8 gc+8+5 gc+4+50 wc+16+1 wc+2+60 g1+4 g2+12+3 w1+5 w2+13 g3+6 w3 g4+16 w4 g5 w5 g6+20 w6 g7 w7") {
		l = append(l, sym(name+":"+text))
	}
	return l
}

// TestResolveEachThree: P21.1, P21.2, P21.3: any three symbols of one name, of whatever kinds, in one object, two, or three.
func TestResolveEachThree(t *testing.T) {
	all := kinds("a")
	readable(t, []api.Picked{{O: objectOf(1, all...)}})
	fine, twice, undef := 0, 0, 0
	for _, a := range all {
		for _, b := range all {
			for _, c := range all {
				for _, l := range [][]api.Picked{
					{{O: objectOf(0)}, {O: objectOf(1, a, b, c)}},
					{{O: objectOf(0)}, {O: objectOf(1, a, b)}, {O: objectOf(2, c)}},
					{{O: objectOf(0)}, {O: objectOf(1, a)}, {O: objectOf(2, b, c)}},
					{{O: objectOf(0, a)}, {O: objectOf(1, b)}, {O: objectOf(2, c)}},
				} {
					switch _, _, e := checked(t, l); e {
					case api.OK:
						fine++
					case api.ErrTwice:
						twice++
					case api.ErrUndef:
						undef++
					}
				}
			}
		}
	}
	if fine < 40000 || twice < 4000 || undef < 2500 {
		t.Errorf("P21.2: %d were fine, %d defined twice, %d not defined", fine, twice, undef)
	}
}

// anySym: a symbol of few names; of those kinds that make no error rather often.
func anySym(rnd *rand.Rand, names int) api.Sym {
	places := []int{api.Undef, api.Abs, api.Common, inText, inBss, inNote, inOwn, inOwnNote, inDup, inDup, inDupNote}
	s := api.Sym{Name: string(rune('a' + rnd.Intn(names))), Bind: rnd.Intn(3), Type: rnd.Intn(3), Sect: places[rnd.Intn(len(places))], Value: uint64(rnd.Intn(64)), Size: uint64(rnd.Intn(64))}
	if s.Bind == api.BindGlobal && rnd.Intn(3) == 0 {
		s.Bind = api.BindWeak
	}
	if s.Bind == api.BindLocal && (s.Sect == api.Undef || s.Sect == api.Common) {
		s.Sect = 1 + rnd.Intn(sections)
	}
	if s.Bind == api.BindLocal && s.Sect == api.Abs && rnd.Intn(3) == 0 {
		s.Type = api.SymFile
	}
	if s.Sect == api.Common {
		s.Value = 1 << rnd.Intn(13)
	}
	return s
}

// anyObjects: up to six objects of any symbols, of so many names.
func anyObjects(rnd *rand.Rand, names int) []api.Picked {
	var l []api.Picked
	for i := range rnd.Intn(7) {
		var syms []api.Sym
		for range rnd.Intn(8) {
			syms = append(syms, anySym(rnd, names))
		}
		l = append(l, api.Picked{Input: i, Member: -1, O: objectOf(i, syms...)})
	}
	return l
}

// TestResolveAny: P21.1 to P21.4: any objects, held against the chapter's words; where there is no error, each name has one meaning, which all its symbols have.
func TestResolveAny(t *testing.T) {
	rnd := rand.New(rand.NewSource(211))
	ends := map[api.Errno]int{}
	for range 20000 {
		l := anyObjects(rnd, 2+rnd.Intn(25))
		readable(t, l)
		defs, _, e := checked(t, l)
		ends[e]++
		kept := comdat.Kept(l)
		for i, d := range defs {
			if i > 0 && defs[i-1].Name >= d.Name {
				t.Fatalf("P21.1: out of order: %s", told(defs))
			}
			if found, ok := Find(defs, d.Name); !ok || found != d {
				t.Fatalf("P21.3: Find: %+v, %v, wanted %+v", found, ok, d)
			}
			for k, p := range l {
				for n, s := range p.O.Syms {
					if s.Bind == api.BindLocal || s.Name != d.Name {
						continue
					}
					if got, e := Of(l, kept, defs, k, uint32(n)); got != d || e != api.OK {
						t.Fatalf("P21.4: %+v, %v, wanted %+v", got, e, d)
					}
				}
			}
		}
	}
	if ends[api.OK] < 3000 || ends[api.ErrTwice] < 1000 || ends[api.ErrUndef] < 3000 {
		t.Errorf("P21.2: %v", ends)
	}
}

// TestFind: P21.3: the Def of a name, whole; of a list in order, in any order, of none; where several have the name the first one.
func TestFind(t *testing.T) {
	full := func(name string, n int) api.Def {
		return api.Def{Name: name, Kind: 1 + n%3, Obj: n + 1, Sect: n + 2, Value: uint64(n) + 3, Size: uint64(n) + 4, Align: uint64(n) + 5}
	}
	names := []string{"", "\x00", "10", "9", "A", "_start", "a", "a\x00", "a0", "aa", "ab", "b", strings.Repeat("b", 200), strings.Repeat("b", 201), "é", "\xff"}
	rnd := rand.New(rand.NewSource(212))
	for n := range len(names) + 1 {
		for round := range 30 {
			var defs []api.Def
			for i, name := range names[:n] {
				defs = append(defs, full(name, i))
			}
			if round > 0 {
				rnd.Shuffle(n, func(i, j int) { defs[i], defs[j] = defs[j], defs[i] })
			}
			for i, name := range names {
				want := api.Def{}
				if i < n {
					want = full(name, i)
				}
				if d, ok := Find(defs, name); d != want || ok != (i < n) {
					t.Errorf("P21.3: Find %q of %s: %+v, %v", name, told(defs), d, ok)
				}
			}
			for _, name := range []string{"a1", "c", "B", "b\x00", "\xfe", "\xff\xff", strings.Repeat("b", 199)} {
				if d, ok := Find(defs, name); ok || d != (api.Def{}) {
					t.Errorf("P21.3: Find %q of %s: %+v", name, told(defs), d)
				}
			}
		}
	}
	if d, ok := Find([]api.Def{}, ""); ok || d != (api.Def{}) {
		t.Errorf("P21.3: Find of an empty list: %+v", d)
	}
	for range 20000 {
		var defs []api.Def
		for i := range rnd.Intn(9) {
			defs = append(defs, full(string(rune('a'+rnd.Intn(4))), i))
		}
		name := string(rune('a' + rnd.Intn(4)))
		i := slices.IndexFunc(defs, func(d api.Def) bool { return d.Name == name })
		if d, ok := Find(defs, name); ok != (i >= 0) || ok && d != defs[i] || !ok && d != (api.Def{}) {
			t.Fatalf("P21.3: Find %q of %s: %+v, %v", name, told(defs), d, ok)
		}
	}
}

// TestOf: P21.3: each kind of symbol: local ones by where they are, others by their names.
func TestOf(t *testing.T) {
	l := objects("f:fa+3+4 loc:l1+5+6 loc:l2+7 note:l3+1 own:l4+8 ownnote:l5 dup:l6+9 dupnote:l7 num:la+10+11 big:la+18446744073709551615 "+
		"a:g1+4+5 b:ga+6 c:gc+8+9 d:w? e:g6+1 e2:w7 n:w3 o:g4+2 p:w2+64 q:g? r:wc+2+3", "q:w1+3 a:w1+9 c:wc+64+2 f:g2+1 loc:g1")
	readable(t, l)
	if _, _, e := checked(t, l); e != api.OK {
		t.Fatalf("P21.2: %v", e)
	}
	kept := comdat.Kept(l)
	defs, _, _ := Resolve(l, kept)
	wants := []string{"=N", "own1=A o1", "dup=A o1", "f=N", "loc=S o1 v5", "loc=S o1 s1 v7", "53", "own=S o1 s3 v8", "53", "53", "53", "num=A o1 v10", "big=A o1 v18446744073709551615",
		"a=S o1 v4", "b=A o1 v6", "c=C o1 z9 a64", "d=N", "52", "52", "n=N", "o=S o1 s3 v2", "p=S o1 s1 v64", "q=S o2 v3", "r=C o1 z3 a2"}
	if len(wants) != len(l[1].O.Syms) {
		t.Fatalf("%d symbols", len(l[1].O.Syms))
	}
	of := func(obj int, sym uint32) string {
		d, e := Of(l, kept, defs, obj, sym)
		if e == api.OK {
			return told([]api.Def{d})
		}
		if d != (api.Def{}) {
			t.Errorf("P21.3: beside %v: %+v", e, d)
		}
		return strconv.Itoa(int(e))
	}
	for k, want := range wants {
		if got := of(1, uint32(k)); got != want {
			t.Errorf("P21.3: symbol %d, %+v: %s, wanted %s", k, l[1].O.Syms[k], got, want)
		}
	}
	for i, p := range l {
		for _, k := range []uint32{uint32(len(p.O.Syms)), uint32(len(p.O.Syms)) + 1, 1 << 16, 1 << 31, 1<<31 + 1, math.MaxUint32} {
			if got := of(i, k); got != "52" {
				t.Errorf("P21.3: symbol %d of object %d: %s", k, i, got)
			}
		}
	}
	for _, i := range []int{-1, -2, math.MinInt, len(l), len(l) + 1, 1 << 32, 1 << 40, math.MaxInt} {
		for _, k := range []uint32{0, 1, 4, math.MaxUint32} {
			if got := of(i, k); got != "52" {
				t.Errorf("P21.3: symbol %d of object %d: %s", k, i, got)
			}
		}
	}
}

// TestOfNames: P21.3: a local symbol's name is its own, though others have it, and may be ""; its type says nothing, but for a file's.
func TestOfNames(t *testing.T) {
	o := objectOf(0)
	section := api.Sym{Type: api.SymSection, Sect: inBss}
	o.Syms = append(o.Syms, section, api.Sym{Name: "x", Type: api.SymObject, Sect: api.Abs, Value: 5, Size: 6}, api.Sym{Sect: api.Abs, Value: 4}, api.Sym{Type: api.SymFile, Sect: api.Abs, Value: 3},
		api.Sym{Name: "x", Type: api.SymFunc, Sect: inText, Value: 64}, api.Sym{Type: api.SymSection, Sect: inNote}, sym("x:g1+8"))
	l := []api.Picked{{O: o}}
	readable(t, l)
	defs, _, _ := checked(t, l)
	for k, want := range []string{"=S s1", "x=A v5", "=A v4", "=N", "x=S v64", "", "x=S v8"} {
		d, e := Of(l, comdat.Kept(l), defs, 0, uint32(3+k))
		if want == "" && (e != api.ErrDropped || d != (api.Def{})) || want != "" && (e != api.OK || told([]api.Def{d}) != want) {
			t.Errorf("P21.3: symbol %d: %+v, %v, wanted %q", 3+k, d, e, want)
		}
	}
}

// TestOfDefs: P21.3: what a name means is told by defs alone: of none, of such as Resolve doesn't tell, in any order.
func TestOfDefs(t *testing.T) {
	l := objects("a:g1+4 l:l1 m:w? z:ga+1")
	kept := comdat.Kept(l)
	for _, defs := range [][]api.Def{nil, {}, {{Name: "aa", Kind: 2}}, {{Name: "l", Kind: 2}}} {
		for _, k := range []uint32{4, 5, 6} {
			if d, e := Of(l, kept, defs, 1, k); e != api.ErrUndef || d != (api.Def{}) {
				t.Errorf("P21.3: of %s: %+v, %v", told(defs), d, e)
			}
		}
		if d, e := Of(l, kept, defs, 1, 3); e != api.OK || told([]api.Def{d}) != "l=S o1" {
			t.Errorf("P21.3: of %s: %+v, %v", told(defs), d, e)
		}
	}
	rnd := rand.New(rand.NewSource(213))
	defs := []api.Def{{Name: "z", Kind: 1, Obj: 5, Sect: 6, Value: 7, Size: 8, Align: 9}, {Name: "a", Kind: 3, Value: 1}, {Name: "m", Kind: 2, Obj: -1}, {Name: ""}, {Name: "b", Kind: 9}, {Name: "zz", Kind: 1}}
	for range 1000 {
		rnd.Shuffle(len(defs), func(i, j int) { defs[i], defs[j] = defs[j], defs[i] })
		for k, name := range []string{"a", "m", "z"} {
			i := slices.IndexFunc(defs, func(d api.Def) bool { return d.Name == name })
			if d, e := Of(l, kept, defs, 1, uint32(4+k)); e != api.OK || d != defs[i] {
				t.Fatalf("P21.3: %q of %s: %+v, %v", name, told(defs), d, e)
			}
		}
	}
}

// TestEmptyLists: P21.1, P21.3: lists that are nil and such that are empty are the same.
func TestEmptyLists(t *testing.T) {
	for _, l := range [][]api.Picked{nil, {}} {
		for _, kept := range [][][]bool{nil, {}} {
			if defs, at, e := Resolve(l, kept); len(defs) != 0 || at != 0 || e != api.OK {
				t.Errorf("P21.1: of nothing: %s; %d, %v", told(defs), at, e)
			}
			if d, e := Of(l, kept, nil, 0, 0); d != (api.Def{}) || e != api.ErrUndef {
				t.Errorf("P21.3: of nothing: %+v, %v", d, e)
			}
		}
	}
	bare := []api.Sym{{}, sym("f:fa"), sym("a:ga+1"), sym("b:w?"), sym("c:gc+1+1")}
	l := []api.Picked{{O: api.Object{Syms: bare}}, {O: api.Object{Sects: []api.Sect{}, Syms: []api.Sym{}, Groups: []api.Group{}}}, {O: api.Object{Sects: []api.Sect{}, Syms: bare[:2], Groups: []api.Group{}}}}
	for _, kept := range [][][]bool{nil, {nil, nil, nil}, {{}, {}, {}}} {
		if defs, at, e := Resolve(l, kept); told(defs) != "a=A v1, b=N, c=C z1 a1" || at != 0 || e != api.OK {
			t.Errorf("P21.1: of objects without sections: %s; %d, %v", told(defs), at, e)
		}
	}
	checked(t, l)
}

// file: the bytes of an object of such symbols.
func file(t *testing.T, number int, texts string) []byte {
	t.Helper()
	var syms []api.Sym
	for _, word := range strings.Fields(texts) {
		syms = append(syms, sym(word))
	}
	b, e := emit.Write(objectOf(number, syms...))
	if e != api.OK {
		t.Fatalf("an object that can't be written: %s: %v", texts, e)
	}
	return b
}

// TestOfFiles: P21.1, P21.2, P21.3: objects that were written and read, of inputs and of archives, in the order in which they came.
func TestOfFiles(t *testing.T) {
	start := file(t, 0, "here:l1+4 _start:g1 f:g? w:w? buf:gc+8+16 k:w6+8")
	lib := ar.Write([]api.Member{{Name: "w", B: file(t, 1, "w:g1")}, {Name: "f", B: file(t, 2, "f:w4+12 g:g? buf:wc+32+8")}, {Name: "g", B: file(t, 3, "g:ga+77 k:g6+16")}}, nil)
	last := file(t, 4, "f:w1 k:g? w:w3")
	l, _, e := pick.Pick([][]byte{start, lib, last}, "_start")
	if e != api.OK || len(l) != 4 {
		t.Fatalf("%d came, %v", len(l), e)
	}
	defs, at, e := checked(t, l)
	if got := told(defs); got != "_start=S, buf=C z16 a32, f=S o1 s3 v12, g=A o2 v77, k=S s5 v8, w=N" || at != 0 || e != api.OK {
		t.Errorf("P21.1: %s; %d, %v", got, at, e)
	}
	// A member comes for f. The last one defines it only by a section that isn't kept.
	for _, c := range []struct {
		texts string
		at    int
		e     api.Errno
	}{{"g:g1 f:g1", 0, api.OK}, {"g:g1 _start:g1 f:g1", 1, api.ErrTwice}, {"f:g1 u:g?", 1, api.ErrUndef}, {"f:g3", 0, api.ErrUndef}} {
		l, _, _ := pick.Pick([][]byte{start, ar.Write([]api.Member{{Name: "m", B: file(t, 1, c.texts)}}, nil)}, "_start")
		if len(l) != 2 {
			t.Fatalf("%s: %d came", c.texts, len(l))
		}
		if _, at, e := checked(t, l); at != c.at || e != c.e {
			t.Errorf("P21.2: %s: %d, %v, wanted %d, %v", c.texts, at, e, c.at, c.e)
		}
	}
}

// TestMost: P21.1, P21.2, P21.3: as many objects as there may be, each of as many symbols: Resolve ends in time, and so do very many calls of Of.
func TestMost(t *testing.T) {
	const many = api.MaxInputs * 10
	sect := []api.Sect{{Flags: 6, Size: 1 << 20}}
	var l []api.Picked
	for i := range many {
		o := api.Object{Sects: sect, Syms: make([]api.Sym, 1, api.MaxSyms)}
		for k := 1; k < api.MaxSyms; k++ {
			s := api.Sym{Name: "s" + strconv.Itoa(i*250+k/2), Bind: api.BindGlobal, Sect: 1, Value: uint64(k)}
			if k%2 == 1 {
				// Asked for by this one, defined by another one.
				s.Name, s.Sect = "s"+strconv.Itoa((i*250+k*31+77)%(many*250)), api.Undef
			}
			o.Syms = append(o.Syms, s)
		}
		l = append(l, api.Picked{Input: i, Member: -1, O: o})
	}
	// The names that nobody defines.
	for i := range many {
		l[0].O.Syms = append(l[0].O.Syms, api.Sym{Name: "s" + strconv.Itoa(i*250), Bind: api.BindWeak, Sect: api.Abs})
	}
	kept := comdat.Kept(l)
	defs, at, e := Resolve(l, kept)
	if len(defs) != many*250 || at != 0 || e != api.OK {
		t.Fatalf("P21.1: %d names, %d, %v", len(defs), at, e)
	}
	for i, p := range l {
		for k, s := range p.O.Syms {
			if k == 0 {
				continue
			}
			if d, e := Of(l, kept, defs, i, uint32(k)); e != api.OK || d.Name != s.Name || s.Sect == 1 && (d.Obj != i || d.Value != uint64(k)) {
				t.Fatalf("P21.3: symbol %d of object %d: %+v, %v", k, i, d, e)
			}
		}
	}
	l[many-1].O.Syms = append(l[many-1].O.Syms, api.Sym{Name: "s1", Bind: api.BindGlobal, Sect: 1})
	if defs, at, e := Resolve(l, kept); defs != nil || at != many-1 || e != api.ErrTwice {
		t.Errorf("P21.2: %d names, %d, %v", len(defs), at, e)
	}
	l[many-1].O.Syms[len(l[many-1].O.Syms)-1] = api.Sym{Name: "", Bind: api.BindGlobal}
	if defs, at, e := Resolve(l, kept); defs != nil || at != many-1 || e != api.ErrUndef {
		t.Errorf("P21.2: %d names, %d, %v", len(defs), at, e)
	}
}

// TestManyOfOneName: P21.1, P21.2: so many symbols of one name, and so many groups' members, that they can't be held against each other one by one, or this doesn't end in time.
func TestManyOfOneName(t *testing.T) {
	const many = 1 << 15
	o := api.Object{Sects: make([]api.Sect, many), Syms: []api.Sym{{}}}
	for s := range o.Sects {
		o.Groups = append(o.Groups, api.Group{Sig: strconv.Itoa(s), Members: []int{many - 1 - s}})
		o.Syms = append(o.Syms, api.Sym{Name: "a", Bind: api.BindGlobal, Sect: s + 1}, api.Sym{Name: "a", Bind: api.BindWeak, Sect: api.Abs, Value: uint64(s) + 5}, api.Sym{Name: "c", Bind: api.BindWeak, Sect: api.Common, Value: 1, Size: uint64(s)})
	}
	l := []api.Picked{{O: o}}
	kept := comdat.Kept(l)
	if defs, at, e := Resolve(l, kept); told(defs) != "a=A v5, c=C z32767 a1" || at != 0 || e != api.OK {
		t.Errorf("P21.1: %s; %d, %v", told(defs), at, e)
	}
	o.Groups = nil
	l[0].O = o
	if defs, at, e := Resolve(append(l, l...), append(kept, kept...)); told(defs) != "a=A v5, c=C z32767 a1" || at != 0 || e != api.OK {
		t.Errorf("P21.1: %s; %d, %v", told(defs), at, e)
	}
	kept[0][0], kept[0][many-1] = true, true
	if defs, at, e := Resolve(l, kept); defs != nil || at != 0 || e != api.ErrTwice {
		t.Errorf("P21.2: %s; %d, %v", told(defs), at, e)
	}
}

// anyWrong: an object that obj.Read never tells: numbers of all sorts wherever there are numbers.
func anyWrong(rnd *rand.Rand) api.Object {
	numbers := []int{-1, 0, 1, 2, 3, 4, 100, 0xfff0, 0xfff1, 0xfff2, 0xffff, 1 << 16, 1 << 32, math.MinInt, math.MinInt + 1, math.MaxInt}
	number := func() int { return numbers[rnd.Intn(len(numbers))] }
	var o api.Object
	for range rnd.Intn(4) {
		o.Sects = append(o.Sects, api.Sect{Flags: uint64(number()), Align: uint64(number()), Size: uint64(number())})
	}
	for range rnd.Intn(6) {
		o.Syms = append(o.Syms, api.Sym{Name: []string{"", "a", "b\x00", strings.Repeat("c", 300)}[rnd.Intn(4)], Bind: number(), Type: number(), Sect: number(), Value: uint64(number()), Size: uint64(number())})
	}
	for range rnd.Intn(3) {
		o.Groups = append(o.Groups, api.Group{Members: []int{number(), number(), 0, 0}})
	}
	return o
}

// TestWrong: P21.1, P21.3: calls end at objects that obj.Read never tells, at what is kept of other objects, and at any defs; beside an error there is nothing else, and its number is an object's.
func TestWrong(t *testing.T) {
	rnd := rand.New(rand.NewSource(214))
	for range 40000 {
		var l []api.Picked
		for range rnd.Intn(5) {
			l = append(l, api.Picked{Input: rnd.Intn(9) - 5, Member: math.MinInt, O: anyWrong(rnd)})
		}
		var kept [][]bool
		if rnd.Intn(3) == 0 {
			kept = comdat.Kept(l)
		}
		for range rnd.Intn(4) {
			row := make([]bool, rnd.Intn(5))
			for s := range row {
				row[s] = rnd.Intn(2) == 0
			}
			kept = append(kept, row)
		}
		defs, at, e := Resolve(l, kept)
		if e == api.OK && at != 0 || e != api.OK && (defs != nil || at < 0 || at >= len(l)) {
			t.Fatalf("P21.2: %s; %d, %v: %s", told(defs), at, e, shown(l))
		}
		rnd.Shuffle(len(defs), func(i, j int) { defs[i], defs[j] = defs[j], defs[i] })
		for i := -1; i <= len(l); i++ {
			for _, k := range []uint32{0, 1, 2, 3, 4, 5, 6, math.MaxUint32} {
				if d, e := Of(l, kept, defs, i, k); e != api.OK && d != (api.Def{}) {
					t.Fatalf("P21.3: beside %v: %+v", e, d)
				}
			}
		}
	}
}

// copied: objects as l's, in memory of their own, behind each list spare room that would change the answer.
func copied(l []api.Picked) []api.Picked {
	var out []api.Picked
	for _, p := range l {
		p.O.Sects = append(slices.Clone(p.O.Sects), api.Sect{Flags: 2})[:len(p.O.Sects)]
		p.O.Syms = append(slices.Clone(p.O.Syms), sym("spare:g?"))[:len(p.O.Syms)]
		groups := append(slices.Clone(p.O.Groups), api.Group{Sig: "spare", Members: []int{inNote - 1}})
		for k, g := range groups {
			groups[k].Members = append(slices.Clone(g.Members), inNote-1)[:len(g.Members)]
		}
		p.O.Groups = groups[:len(p.O.Groups)]
		out = append(out, p)
	}
	return append(out, api.Picked{O: objectOf(99, sym("spare:g?"))})[:len(l)]
}

// whole: l with the spare room behind its lists.
func whole(l []api.Picked) []api.Picked {
	out := slices.Clone(l[:len(l)+1])
	for i := range l {
		o := &out[i].O
		o.Sects, o.Syms = slices.Clone(o.Sects[:len(o.Sects)+1]), slices.Clone(o.Syms[:len(o.Syms)+1])
		o.Groups = slices.Clone(o.Groups[:len(o.Groups)+1])
		for k, g := range o.Groups {
			o.Groups[k].Members = slices.Clone(g.Members[:min(len(g.Members)+1, cap(g.Members))])
		}
	}
	return out
}

// TestOwnMemory: P21.1, P21.3: what is handed in is neither changed nor kept, the spare room behind it included; what is answered is new memory.
func TestOwnMemory(t *testing.T) {
	const want = "a=S o1 v4, b=A o2 v6, c=C o1 z50 a8, d=N, e=S o1 s1 v1"
	l := copied(objects("a:g1+4 c:gc+8+5 d:w3 e:w2+1 x:l1", "a:w1 b:ga+6 c:wc+4+50 x:g6", "a:g? d:w?"))
	kept := append(comdat.Kept(l), []bool{true})[:len(l)]
	for i, row := range kept {
		kept[i] = append(slices.Clone(row), true)[:len(row)]
	}
	oldL, oldKept := whole(l), fmt.Sprint(kept)
	defs, _, e := Resolve(l, kept)
	if told(defs) != want || e != api.OK {
		t.Fatalf("P21.1: %s, %v", told(defs), e)
	}
	handed := append(slices.Clone(defs), api.Def{Name: "q", Kind: 2})[:len(defs)]
	for i, p := range l {
		for k := range p.O.Syms {
			Of(l, kept, handed, i, uint32(k))
		}
	}
	if d, ok := Find(handed, "q"); ok {
		t.Errorf("P21.3: found behind the list: %+v", d)
	}
	if !reflect.DeepEqual(whole(l), oldL) || fmt.Sprint(kept) != oldKept || !kept[0][:sections+1][sections] || !slices.Equal(handed, defs) || handed[:len(handed)+1][len(handed)].Name != "q" {
		t.Errorf("P21.1: what was handed in was changed: %s", shown(l))
	}
	for _, p := range l {
		clear(p.O.Sects)
		clear(p.O.Syms)
		clear(p.O.Groups)
	}
	for _, row := range kept {
		clear(row)
	}
	if told(defs) != want {
		t.Errorf("P21.1: what was handed in was kept: %s", told(defs))
	}
	clear(defs[:cap(defs)])
	again := objects("a:g1+4 c:gc+8+5 d:w3 e:w2+1 x:l1", "a:w1 b:ga+6 c:wc+4+50 x:g6", "a:g? d:w?")
	if defs, _, _ := checked(t, again); told(defs) != want {
		t.Errorf("P21.1: again: %s", told(defs))
	}
}

// TestSameAgain: P21.1, P21.2: the same objects again have the same answers, whatever order a map is gone through in, and whatever was asked ahead.
func TestSameAgain(t *testing.T) {
	rnd := rand.New(rand.NewSource(215))
	for range 300 {
		l := anyObjects(rnd, 20)
		kept := comdat.Kept(l)
		defs, at, e := Resolve(l, kept)
		for range 10 {
			other := anyObjects(rnd, 20)
			Resolve(other, comdat.Kept(other))
			again, againAt, againE := Resolve(l, kept)
			if !slices.Equal(again, defs) || againAt != at || againE != e {
				t.Fatalf("P21.1: %s; %d, %v, ahead of it %s; %d, %v", told(again), againAt, againE, told(defs), at, e)
			}
		}
	}
}
