package group

import (
	"bytes"
	"encoding/binary"
	"math"
	"math/big"
	"math/rand"
	"slices"
	"testing"

	"dovetail/api"
)

// table: numbers of four bytes, one behind another.
func table(numbers ...uint32) []byte {
	var b []byte
	for _, n := range numbers {
		b = binary.LittleEndian.AppendUint32(b, n)
	}
	return b
}

// plainParse: the chapter's words about a group, one by one, with numbers that have no bounds.
func plainParse(b []byte, sects int) ([]int, bool) {
	if len(b)%4 != 0 || len(b) < 4 {
		return nil, false
	}
	var numbers []uint32
	for i := 0; i < len(b); i += 4 {
		numbers = append(numbers, uint32(b[i])+256*uint32(b[i+1])+65536*uint32(b[i+2])+16777216*uint32(b[i+3]))
	}
	if numbers[0] != 1 {
		return nil, false
	}
	last := new(big.Int).Sub(big.NewInt(int64(sects)), big.NewInt(1))
	var l []int
	for i, n := range numbers[1:] {
		if n < 1 || big.NewInt(int64(n)).Cmp(last) > 0 {
			return nil, false
		}
		if i > 0 && n <= numbers[i] {
			return nil, false
		}
		l = append(l, int(n))
	}
	return l, true
}

// plainCheck: whether no number stands in two of l, each two of which are held against each other.
func plainCheck(l [][]int) bool {
	for i := range l {
		for k := range i {
			for _, n := range l[i] {
				if slices.Contains(l[k], n) {
					return false
				}
			}
		}
	}
	return true
}

// checked: whether Parse answers as plainParse does, and whether it is no error.
func checked(t *testing.T, what string, b []byte, sects int) bool {
	t.Helper()
	l, good := plainParse(b, sects)
	e := api.ErrGroup
	if good {
		e = api.OK
	}
	got, err := Parse(b, sects)
	if !slices.Equal(got, l) || err != e {
		t.Fatalf("P14.1: %s: %x, %d sections: %v, %v, wanted %v, %v", what, b[:min(len(b), 64)], sects, got, err, l, e)
	}
	return good
}

// must: that Parse is good, or isn't, as the test has it written down.
func must(t *testing.T, what string, b []byte, sects int, want bool) {
	t.Helper()
	if checked(t, what, b, sects) != want {
		t.Errorf("P14.1: %s: %x, %d sections: good is %v", what, b[:min(len(b), 64)], sects, !want)
	}
}

// apart: that Check is OK, or isn't, as plainCheck and the test have it.
func apart(t *testing.T, l [][]int, want bool) {
	t.Helper()
	e := api.ErrGroup
	if want {
		e = api.OK
	}
	if got := Check(l...); got != e || plainCheck(l) != want {
		t.Fatalf("P14.1: Check(%v): %v, wanted %v", l, got, e)
	}
}

// TestParse: P14.1: the members, each number where the chapter has it, in rising order.
func TestParse(t *testing.T) {
	for _, c := range []struct {
		b     []byte
		sects int
		want  []int
	}{
		{[]byte{1, 0, 0, 0}, 1, nil},
		{[]byte{1, 0, 0, 0, 1, 0, 0, 0}, 2, []int{1}},
		{[]byte{1, 0, 0, 0, 1, 0, 0, 0, 2, 0, 0, 0}, 3, []int{1, 2}},
		{[]byte{1, 0, 0, 0, 4, 3, 2, 1}, 0x01020305, []int{0x01020304}},
		{[]byte{1, 0, 0, 0, 0, 1, 0, 0, 0, 0, 1, 0, 0, 0, 0, 1}, 1 << 25, []int{1 << 8, 1 << 16, 1 << 24}},
		{[]byte{1, 0, 0, 0, 0xff, 0xff, 0xff, 0x7f, 0, 0, 0, 0x80, 0xff, 0xff, 0xff, 0xff}, 1 << 32, []int{1<<31 - 1, 1 << 31, 1<<32 - 1}},
	} {
		got, e := Parse(c.b, c.sects)
		if !slices.Equal(got, c.want) || e != api.OK {
			t.Errorf("P14.1: %x, %d sections: %v, %v, wanted %v", c.b, c.sects, got, e, c.want)
		}
		checked(t, "written down", c.b, c.sects)
	}
}

// TestParseEmpty: P14.1: a group without members is one, however many sections there are.
func TestParseEmpty(t *testing.T) {
	for _, sects := range []int{math.MinInt, -1 << 32, -1, 0, 1, 2, 100, 1 << 32, math.MaxInt} {
		must(t, "no members", table(1), sects, true)
	}
}

// TestParseLength: P14.1: a multiple of 4 bytes, 4 at least.
func TestParseLength(t *testing.T) {
	whole := table(1, 2, 3, 5, 8)
	for n := range len(whole) + 1 {
		must(t, "cut short", whole[:n], 9, n >= 4 && n%4 == 0)
	}
	must(t, "no bytes", nil, 9, false)
	must(t, "no bytes, but room", whole[:0], 9, false)
	for more := 1; more < 4; more++ {
		must(t, "bytes behind", append(table(1), make([]byte, more)...), 9, false)
		must(t, "bytes behind members", append(table(1, 2), bytes.Repeat([]byte{3}, more)...), 1<<32, false)
	}
	// The bytes behind those that are handed in are nobody's, though they would make a number whole.
	must(t, "room behind", table(1, 2, 3)[:11], 9, false)
}

// TestParseFirst: P14.1: the first number is 1, all four bytes of it, with members and without.
func TestParseFirst(t *testing.T) {
	for _, first := range []uint32{0, 1, 2, 3, 17, 255, 1 << 8, 1<<8 + 1, 1 << 16, 1<<16 + 1, 1 << 24, 1<<24 + 1, 1 << 31, 1<<31 + 1, math.MaxUint32} {
		must(t, "a first number", table(first), 9, first == 1)
		must(t, "a first number and members", table(first, 1, 4), 9, first == 1)
	}
}

// TestParseRange: P14.1: each member from 1 to sects - 1, wherever it stands; of sects so low that one less would wrap, too.
func TestParseRange(t *testing.T) {
	for sects := -2; sects < 12; sects++ {
		for n := range uint32(14) {
			must(t, "one member", table(1, n), sects, n >= 1 && int(n) <= sects-1)
		}
	}
	for _, n := range []uint32{1, 2, 1<<31 - 1, 1 << 31, math.MaxUint32 - 1, math.MaxUint32} {
		for _, sects := range []int{math.MinInt, math.MinInt + 1, -1 << 32, -1, 0, 1} {
			must(t, "no section", table(1, n), sects, false)
		}
		must(t, "one past the last", table(1, n), int(n), false)
		must(t, "the last", table(1, n), int(n)+1, true)
		must(t, "far from the last", table(1, n), math.MaxInt, true)
	}
	must(t, "the last of three", table(1, 2, 5, 9), 10, true)
	must(t, "past the last of three", table(1, 2, 5, 10), 10, false)
	must(t, "the first is 0", table(1, 0, 5, 9), 10, false)
	must(t, "0 stands between", table(1, 5, 0, 9), 10, false)
	must(t, "0 is the last", table(1, 5, 9, 0), 10, false)
}

// TestParseRising: P14.1: each above the one ahead: all groups of up to four members of few numbers; the first number of all, 1, is ahead of no member.
func TestParseRising(t *testing.T) {
	const top = 5
	for many := range 5 {
		numbers := make([]uint32, many+1)
		numbers[0] = 1
		all := 1
		for range many {
			all *= top
		}
		for x := range all {
			rising := true
			for i := 1; i <= many; i++ {
				numbers[i] = uint32(x%top) + 1
				x /= top
				rising = rising && (i == 1 || numbers[i] > numbers[i-1])
			}
			must(t, "few numbers", table(numbers...), top+1, rising)
		}
	}
	must(t, "great numbers rise", table(1, 1<<31-1, 1<<31, math.MaxUint32), 1<<32, true)
	must(t, "great numbers fall", table(1, 1<<31, 1<<31-1), 1<<32, false)
	must(t, "the greatest twice", table(1, math.MaxUint32, math.MaxUint32), 1<<32, false)
	must(t, "the greatest, and 1", table(1, math.MaxUint32, 1), 1<<32, false)
}

// TestParseEachByte: P14.1: each byte of a group as each other one.
func TestParseEachByte(t *testing.T) {
	whole := table(1, 3, 0x1234, 0x01020304)
	for i := range whole {
		b := bytes.Clone(whole)
		for x := range 256 {
			b[i] = byte(x)
			for _, sects := range []int{0, 4, 0x1235, 0x01020304, 0x01020305, 1 << 32} {
				checked(t, "one byte", b, sects)
			}
		}
	}
}

// TestParseMany: P14.1: far more members than an object has sections; that the last of them is wrong counts, too.
func TestParseMany(t *testing.T) {
	const many = 1 << 20
	b := table(1)
	for i := range uint32(many) {
		b = binary.LittleEndian.AppendUint32(b, 2*i+1)
	}
	must(t, "many members", b, 2*many, true)
	must(t, "many members, the last is none", b, 2*many-1, false)
	must(t, "many members, a byte more", append(b, 0), 2*many, false)
	copy(b[4*many:], b[4*many-4:])
	must(t, "many members, the last twice", b, 2*many, false)
}

// anyMembers: rising numbers, and how many sections there are at least.
func anyMembers(rnd *rand.Rand) ([]int, int) {
	var l []int
	last := 0
	for range rnd.Intn(8) {
		last += 1 + rnd.Intn(1<<rnd.Intn(30))
		if last > math.MaxUint32 {
			break
		}
		l = append(l, last)
	}
	sects := 1
	if len(l) > 0 {
		sects = l[len(l)-1] + 1
	}
	return l, sects
}

// numbersOf: members as the numbers of a group.
func numbersOf(members []int) []uint32 {
	numbers := []uint32{1}
	for _, n := range members {
		numbers = append(numbers, uint32(n))
	}
	return numbers
}

// TestAnyGroup: P14.1: any groups, right ones and those with some bits changed, held against the chapter's words one by one.
func TestAnyGroup(t *testing.T) {
	rnd := rand.New(rand.NewSource(41))
	good, bad := 0, 0
	for run := range 30000 {
		l, sects := anyMembers(rnd)
		b := table(numbersOf(l)...)
		for range rnd.Intn(2) {
			b[rnd.Intn(len(b))] ^= 1 << rnd.Intn(8)
		}
		switch run % 16 {
		case 0:
			rnd.Read(b[rnd.Intn(len(b)+1):])
		case 1:
			b = b[:rnd.Intn(len(b)+1)]
		case 2:
			sects = rnd.Intn(sects+2) - 1
		case 3:
			sects += rnd.Intn(9)
		}
		if checked(t, "any group", b, sects) {
			good++
		} else {
			bad++
		}
	}
	if good < 3000 || bad < 3000 {
		t.Errorf("P14.1: %d groups were right, %d wrong", good, bad)
	}
}

// TestBytes: P14.1: members as bytes, none, one and several; numbers that no group can have are put down too, by their lowest four bytes.
func TestBytes(t *testing.T) {
	for _, c := range []struct {
		l    []int
		want []byte
	}{
		{nil, []byte{1, 0, 0, 0}},
		{[]int{}, []byte{1, 0, 0, 0}},
		{[]int{1}, []byte{1, 0, 0, 0, 1, 0, 0, 0}},
		{[]int{0x01020304}, []byte{1, 0, 0, 0, 4, 3, 2, 1}},
		{[]int{2, 300, 70000}, []byte{1, 0, 0, 0, 2, 0, 0, 0, 0x2c, 1, 0, 0, 0x70, 0x11, 1, 0}},
		{[]int{5, 0, 5}, []byte{1, 0, 0, 0, 5, 0, 0, 0, 0, 0, 0, 0, 5, 0, 0, 0}},
		{[]int{math.MaxUint32, 1 << 31}, []byte{1, 0, 0, 0, 255, 255, 255, 255, 0, 0, 0, 128}},
		{[]int{-1, -2}, []byte{1, 0, 0, 0, 255, 255, 255, 255, 254, 255, 255, 255}},
		{[]int{1<<32 + 7, math.MinInt, math.MaxInt}, []byte{1, 0, 0, 0, 7, 0, 0, 0, 0, 0, 0, 0, 255, 255, 255, 255}},
	} {
		if got := Bytes(c.l...); !bytes.Equal(got, c.want) {
			t.Errorf("P14.1: Bytes(%v): %x, wanted %x", c.l, got, c.want)
		}
	}
}

// TestBytesMany: P14.1: so many members that each is put down at once, or this doesn't end in time.
func TestBytesMany(t *testing.T) {
	l := make([]int, 1<<20)
	for i := range l {
		l[i] = 3*i + 1
	}
	b := Bytes(l...)
	if !bytes.Equal(b, table(numbersOf(l)...)) {
		t.Fatalf("P14.1: %d bytes of many members", len(b))
	}
}

// TestBackAgain: P14.1: members are read from their bytes as they were.
func TestBackAgain(t *testing.T) {
	rnd := rand.New(rand.NewSource(42))
	for range 5000 {
		want, sects := anyMembers(rnd)
		b := Bytes(want...)
		l, e := Parse(b, sects)
		if !slices.Equal(l, want) || e != api.OK {
			t.Fatalf("P14.1: %v, %d sections: %v, %v", want, sects, l, e)
		}
		if again := Bytes(l...); !bytes.Equal(again, b) {
			t.Fatalf("P14.1: %v: %x", want, again)
		}
	}
}

// TestCheck: P14.1: groups that share a number and groups that don't; a number that stands twice in one of them stands in that one alone; any numbers.
func TestCheck(t *testing.T) {
	for _, c := range []struct {
		l    [][]int
		want bool
	}{
		{nil, true},
		{[][]int{}, true},
		{[][]int{nil}, true},
		{[][]int{nil, {}, nil}, true},
		{[][]int{{1, 2, 3}}, true},
		{[][]int{{1, 1}}, true},
		{[][]int{{0, 0}, {1, 1}, {2, 2, 2}}, true},
		{[][]int{{1, 3, 5}, {2, 4, 6}}, true},
		{[][]int{{3, 1}, {4, 2}}, true},
		{[][]int{{1}, {1}}, false},
		{[][]int{{0}, {0}}, false},
		{[][]int{{1, 2, 3}, {3, 4, 5}}, false},
		{[][]int{{1, 2, 3}, {4, 5, 1}}, false},
		{[][]int{{1}, {}, {2}, nil, {1}}, false},
		{[][]int{{1}, {2}, {3}, {4, 3}}, false},
		{[][]int{{2}, {1, 1}, {1}}, false},
		{[][]int{{1}, {2}, {1}, {2}}, false},
		{[][]int{{-1}, {1}, {math.MinInt}, {math.MaxInt}, {1 << 32}, {1<<32 + 1}, {0}}, true},
		{[][]int{{-1}, {5, -1}}, false},
		{[][]int{{math.MinInt}, {7}, {math.MinInt}}, false},
		{[][]int{{math.MaxInt}, {math.MaxInt}}, false},
	} {
		apart(t, c.l, c.want)
		turned := slices.Clone(c.l)
		slices.Reverse(turned)
		apart(t, turned, c.want)
	}
}

// TestCheckEachPair: P14.1: one number in any two of several groups, at any place in them.
func TestCheckEachPair(t *testing.T) {
	const groups, members = 6, 3
	for x := range groups * members {
		for y := range groups * members {
			l := make([][]int, groups)
			for i := range groups * members {
				l[i/members] = append(l[i/members], i+1)
			}
			l[x/members][x%members] = 100
			l[y/members][y%members] = 100
			apart(t, l, x/members == y/members)
		}
	}
}

// TestCheckMany: P14.1: so many groups and members that they can't be held against each other one by one, or this doesn't end in time.
func TestCheckMany(t *testing.T) {
	const many = 1 << 18
	l := make([][]int, many)
	for i := range l {
		l[i] = []int{i, many + i, i}
	}
	if e := Check(l...); e != api.OK {
		t.Errorf("P14.1: many groups: %v", e)
	}
	l[many-1] = []int{3 * many, many}
	if e := Check(l...); e != api.ErrGroup {
		t.Errorf("P14.1: many groups, the last has a member of the first: %v", e)
	}
	one := make([]int, many)
	for i := range one {
		one[i] = i
	}
	if e := Check(one); e != api.OK {
		t.Errorf("P14.1: a group of many members: %v", e)
	}
	if e := Check(one, []int{many}, []int{many - 1}); e != api.ErrGroup {
		t.Errorf("P14.1: a group of many members, the last of them is in another, too: %v", e)
	}
}

// TestOneAtMost: P14.2: of any groups that Parse tells and Check takes, each section is in one at most; and Check refuses none where that is so.
func TestOneAtMost(t *testing.T) {
	rnd := rand.New(rand.NewSource(43))
	good, bad := 0, 0
	for range 20000 {
		sects := 2 + rnd.Intn(40)
		l := make([][]int, rnd.Intn(5))
		in := make([]int, sects)
		most := 0
		for i := range l {
			numbers := []uint32{1}
			for n := 1; n < sects; n++ {
				if rnd.Intn(12) == 0 {
					numbers = append(numbers, uint32(n))
					in[n]++
					most = max(most, in[n])
				}
			}
			var e api.Errno
			if l[i], e = Parse(table(numbers...), sects); e != api.OK || len(l[i]) != len(numbers)-1 {
				t.Fatalf("P14.1: %v, %d sections: %v, %v", numbers, sects, l[i], e)
			}
		}
		e := Check(l...)
		if (e == api.OK) != (most <= 1) || e != api.OK && e != api.ErrGroup {
			t.Fatalf("P14.2: %v: a section is in %d groups: %v", l, most, e)
		}
		if e == api.OK {
			good++
		} else {
			bad++
		}
	}
	if good < 3000 || bad < 3000 {
		t.Errorf("P14.2: %d lists of groups were right, %d wrong", good, bad)
	}
}

// TestOwnMemory: P14.1: what is handed in is neither changed nor kept, the spare room behind it included; what is answered is new memory.
func TestOwnMemory(t *testing.T) {
	b := append(table(1, 2, 300), "spare"...)
	old := bytes.Clone(b)
	l, e := Parse(b[:12], 301)
	if !bytes.Equal(b, old) || e != api.OK {
		t.Errorf("P14.1: what was handed in was changed, or is wrong: %x, %v", b, e)
	}
	clear(b)
	if !slices.Equal(l, []int{2, 300}) {
		t.Errorf("P14.1: what was handed in was kept: %v", l)
	}
	copy(b, old)
	clear(l[:cap(l)])
	must(t, "again", b[:12], 301, true)

	list := []int{2, 300, 7}
	first := Bytes(list[:2]...)
	clear(first[:cap(first)])
	if !slices.Equal(list, []int{2, 300, 7}) {
		t.Errorf("P14.1: Bytes changed its list: %v", list)
	}
	if second := Bytes(list[:2]...); !bytes.Equal(second, table(1, 2, 300)) {
		t.Errorf("P14.1: Bytes again: %x", second)
	}

	room := []int{9, 4, 8}
	groups := [][]int{{4, 1}, room[:1], {1}}
	for range 2 {
		// A second call knows nothing of the first one, and spare room holds no members.
		if e := Check(groups[:2]...); e != api.OK {
			t.Errorf("P14.1: Check: %v", e)
		}
		if e := Check([]int{4, 3}); e != api.OK {
			t.Errorf("P14.1: Check of another list: %v", e)
		}
	}
	if !slices.Equal(groups[0], []int{4, 1}) || !slices.Equal(room, []int{9, 4, 8}) || !slices.Equal(groups[2], []int{1}) {
		t.Errorf("P14.1: Check changed its groups: %v", groups)
	}
}
