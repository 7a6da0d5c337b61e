package obj

import (
	"slices"
	"strings"

	"dovetail/api"
	"dovetail/group"
	"dovetail/rela"
	"dovetail/strtab"
	"dovetail/symtab"
)

// A section's relocations bear its name behind ".rela", which must be a name too.
const maxRelName = api.MaxName - len(".rela")

// Check tells whether o is an object such as Read tells: the error of the first of its parts (sections, symbols, relocations, groups) that is wrong.
func Check(o api.Object) api.Errno {
	switch {
	case !sectsRight(o.Sects):
		return api.ErrSect
	case !symsRight(o):
		return api.ErrSym
	case !relsRight(o):
		return api.ErrRela
	case !groupsRight(o):
		return api.ErrGroup
	}
	return api.OK
}

func sectsRight(sects []api.Sect) bool {
	if !together(sects) {
		return false
	}
	for _, s := range sects {
		if !named(s) || s.Flags&^sectFlags != 0 || !aligned(s.Align) || !filled(s) {
			return false
		}
	}
	return true
}

// named tells whether the name of s can stand in a table of names, and that of its relocations, too.
func named(s api.Sect) bool {
	if len(s.Rels) > 0 {
		return isName(s.Name, maxRelName)
	}
	return isName(s.Name, api.MaxName)
}

func isName(name string, most int) bool {
	return len(name) <= most && !strings.Contains(name, "\x00")
}

// filled tells whether s has its bytes, or is zeros, of which there is nothing to be read or relocated.
func filled(s api.Sect) bool {
	if s.Zero {
		return len(s.Data) == 0 && len(s.Rels) == 0
	}
	return s.Size == uint64(len(s.Data))
}

// symsRight tells whether the symbols of o are the same when they are read from a table of them, and stand where they may.
func symsRight(o api.Object) bool {
	// Too many of them, or too long names, are refused ahead of a table, which might be great.
	if len(o.Syms) > api.MaxSyms {
		return false
	}
	names := make([]string, len(o.Syms))
	for i, s := range o.Syms {
		if !isName(s.Name, api.MaxName) {
			return false
		}
		names[i] = s.Name
	}
	tab, at := strtab.Build(names...)
	raws := make([]api.Raw, len(o.Syms))
	for i, s := range o.Syms {
		raws[i] = api.Raw{Name: at[i], Bind: s.Bind, Type: s.Type, Sect: s.Sect, Value: s.Value, Size: s.Size}
	}
	got, _, e := symtab.Parse(symtab.Bytes(raws...), tab, locals(o.Syms))
	// A number that has no room in the table comes back as another one.
	return e == api.OK && slices.Equal(got, raws) && standing(o)
}

// locals tells how many local symbols stand ahead of the first that isn't.
func locals(syms []api.Sym) uint32 {
	n := slices.IndexFunc(syms, func(s api.Sym) bool { return s.Bind != api.BindLocal })
	if n < 0 {
		n = len(syms)
	}
	return uint32(n)
}

func relsRight(o api.Object) bool {
	many := 0
	for _, s := range o.Sects {
		many += len(s.Rels)
		if many > api.MaxRels {
			return false
		}
		if _, e := rela.Parse(rela.Bytes(s.Rels...), s.Size, len(o.Syms)); e != api.OK {
			return false
		}
	}
	return true
}

func groupsRight(o api.Object) bool {
	numberOf := make(map[string]int, len(o.Syms))
	for i, s := range o.Syms {
		numberOf[s.Name] = i
	}
	all := make([][]int, len(o.Groups))
	for i, g := range o.Groups {
		if _, found := numberOf[g.Sig]; !found || g.Sig == "" || !rising(g.Members, len(o.Sects)) {
			return false
		}
		all[i] = g.Members
	}
	return group.Check(all...) == api.OK
}

// rising tells whether members are numbers of an object's sects sections, each above the one ahead.
func rising(members []int, sects int) bool {
	ahead := -1
	for _, m := range members {
		if m <= ahead || m >= sects {
			return false
		}
		ahead = m
	}
	return true
}
