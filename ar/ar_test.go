package ar

import (
	"bytes"
	"fmt"
	"math/big"
	"math/rand"
	"slices"
	"strings"
	"testing"

	"dovetail/api"
)

// part: a member of a file: the name as its header has it, its bytes, and a LF behind an odd number of them.
func part(name, data string) string {
	s := fmt.Sprintf("%-16s%-32s%-10d`\n%s", name, "", len(data), data)
	if len(data)%2 == 1 {
		s += "\n"
	}
	return s
}

// file: an archive of parts.
func file(parts ...string) []byte {
	return []byte("!<arch>\n" + strings.Join(parts, ""))
}

// sized: a member with that text where its length stands.
func sized(length, data string) string {
	s := part("a/", data)
	return s[:48] + length + s[58:]
}

// short: v as text, of which a message has no more than so much.
func short(v any) string {
	return fmt.Sprintf("%.400s", fmt.Sprintf("%+q", v))
}

// same: whether two lists of members are alike.
func same(a, b []api.Member) bool {
	return slices.EqualFunc(a, b, func(x, y api.Member) bool { return x.Name == y.Name && bytes.Equal(x.B, y.B) })
}

// plainNumber: the number that a field's digits tell, with spaces behind them alone; one without bounds.
func plainNumber(field []byte) (*big.Int, bool) {
	n := new(big.Int)
	digits, spaces := 0, 0
	for _, c := range field {
		switch {
		case c == ' ':
			spaces++
		case '0' <= c && c <= '9' && spaces == 0:
			n.Mul(n, big.NewInt(10))
			n.Add(n, big.NewInt(int64(c-'0')))
			digits++
		default:
			return nil, false
		}
	}
	return n, digits > 0
}

// piece: a member as it stands in a file.
type piece struct{ name, data []byte }

// pieces: the chapter's words about a file's members, whatever their names say.
func pieces(b []byte) ([]piece, bool) {
	if len(b) > 1048576 || len(b) < 8 || string(b[:8]) != "!<arch>\n" {
		return nil, false
	}
	var l []piece
	for at := 8; at < len(b); {
		if len(b)-at < 60 || b[at+58] != '`' || b[at+59] != 10 {
			return nil, false
		}
		n, good := plainNumber(b[at+48 : at+58])
		if !good || n.Cmp(big.NewInt(int64(len(b)-at-60))) > 0 {
			return nil, false
		}
		end := at + 60 + int(n.Int64())
		l = append(l, piece{b[at : at+16], b[at+60 : end]})
		if n.Bit(0) == 1 && end < len(b) {
			if b[end] != 10 {
				return nil, false
			}
			end++
		}
		at = end
	}
	return l, true
}

// plainName: the chapter's words about a member's name.
func plainName(field, long []byte) (string, bool) {
	var name []byte
	if n, digits := plainNumber(field[1:]); field[0] == '/' && digits {
		from := len(long)
		if n.Cmp(big.NewInt(int64(from))) < 0 {
			from = int(n.Int64())
		}
		to := from
		for ; to+1 < len(long) && (long[to] != '/' || long[to+1] != 10); to++ {
		}
		if to+1 >= len(long) {
			return "", false
		}
		name = long[from:to]
	} else {
		at := slices.Index(field, '/')
		if at < 0 {
			return "", false
		}
		for _, c := range field[at+1:] {
			if c != ' ' {
				return "", false
			}
		}
		name = field[:at]
	}
	for _, c := range name {
		if c == 0 || c == '/' || c == 10 {
			return "", false
		}
	}
	return string(name), 1 <= len(name) && len(name) <= 200
}

// plainRead: the chapter's words about an archive, one by one.
func plainRead(b []byte) (members []api.Member, index []byte, good bool) {
	l, good := pieces(b)
	if !good {
		return nil, nil, false
	}
	if len(l) > 0 && string(l[0].name) == "/               " {
		index, l = l[0].data, l[1:]
	}
	var long []byte
	if len(l) > 0 && string(l[0].name) == "//              " {
		long, l = l[0].data, l[1:]
	}
	for _, p := range l {
		// The index and the long names anywhere else have no name that is one.
		name, good := plainName(p.name, long)
		if !good {
			return nil, nil, false
		}
		members = append(members, api.Member{Name: name, B: p.data})
	}
	if len(members) > 100 {
		return nil, nil, false
	}
	return members, index, true
}

// checked: whether Read answers as plainRead does, and whether it is no error.
func checked(t *testing.T, what string, b []byte) bool {
	t.Helper()
	members, index, good := plainRead(b)
	e := api.ErrAr
	if good {
		e = api.OK
	}
	gotMembers, gotIndex, got := Read(b)
	if !same(gotMembers, members) || !bytes.Equal(gotIndex, index) || got != e {
		t.Fatalf("P17.1: %s: %s: %s, %s, %v, wanted %s, %s, %v", what, short(b), short(gotMembers), short(gotIndex), got, short(members), short(index), e)
	}
	return good
}

// must: that Read is good, or isn't, as the test has it written down.
func must(t *testing.T, what string, b []byte, want bool) {
	t.Helper()
	if checked(t, what, b) != want {
		t.Errorf("P17.1: %s: %s: good is %v", what, short(b), !want)
	}
}

// reads: that the names and the bytes of b's members, and its index, are those.
func reads(t *testing.T, what string, b []byte, index string, want ...string) {
	t.Helper()
	must(t, what, b, true)
	members, got, _ := Read(b)
	var l []string
	for _, m := range members {
		l = append(l, m.Name, string(m.B))
	}
	if string(got) != index || !slices.Equal(l, want) {
		t.Errorf("P17.1: %s: %s, %s, wanted %s, %s", what, short(l), short(got), short(want), short(index))
	}
}

// TestRead: P17.1: archives as they are written down, each byte of them.
func TestRead(t *testing.T) {
	reads(t, "no members", []byte("!<arch>\n"), "")
	reads(t, "one member", []byte("!<arch>\na.o/            0           0     0     644     3         `\nxyz\n"), "", "a.o", "xyz")
	reads(t, "all there is", []byte("!<arch>\n"+
		"/               0           0     0     0       5         `\nindex\n"+
		"//                                              45        `\na_name_of_more.o/\nanother long name of more/\n\n"+
		"/0              1700000000  1000  100   100644  2         `\nab"+
		"b.o/            1700000000  1000  100   100644  0         `\n"+
		"/18             1700000000  1000  100   100644  1         `\nc"),
		"index", "a_name_of_more.o", "ab", "b.o", "", "another long name of more", "c")
	reads(t, "two alike", file(part("a/", "xyz"), part("b/", ""), part("a/", "xyz")), "", "a", "xyz", "b", "", "a", "xyz")
	reads(t, "an archive in an archive", file(part("a/", string(file(part("b/", "x"))))), "", "a", string(file(part("b/", "x"))))
}

// TestReadMagic: P17.1: it begins with "!<arch>" and a LF, each byte of them.
func TestReadMagic(t *testing.T) {
	for _, whole := range [][]byte{file(), file(part("a/", "xy"))} {
		for n := range 8 {
			must(t, "cut short", whole[:n], false)
			for c := range 256 {
				b := slices.Clone(whole)
				b[n] = byte(c)
				must(t, "another first byte", b, byte(c) == whole[n])
			}
		}
		must(t, "bytes ahead", append([]byte("\n"), whole...), false)
	}
	must(t, "nothing", nil, false)
	must(t, "a thin archive", []byte("!<thin>\n"), false)
	must(t, "an object", []byte("\x7fELF\x02\x01\x01\x00"), false)
	must(t, "CR and LF", []byte("!<arch>\r\n"), false)
	must(t, "twice", file(string(file())), false)
}

// TestReadCut: P17.1: members go to its end: cut at each place, an archive is one only behind a member, whose last LF may lack.
func TestReadCut(t *testing.T) {
	parts := []string{part("/", "odd"), part("//", "name/\n"), part("/0", "even"), part("a/", ""), part("b/", "x")}
	whole := file(parts...)
	ends := map[int]bool{8: true}
	at := 8
	for _, p := range parts {
		at += len(p)
		ends[at] = true
		if strings.HasSuffix(p, "odd\n") || strings.HasSuffix(p, "x\n") {
			ends[at-1] = true
		}
	}
	for n := range len(whole) + 1 {
		must(t, "cut short", whole[:n], ends[n])
	}
	for more := 1; more <= 60; more++ {
		must(t, "spaces behind", append(slices.Clone(whole), strings.Repeat(" ", more)...), false)
		must(t, "LFs behind", append(slices.Clone(whole), strings.Repeat("\n", more)...), false)
		must(t, "noughts behind", append(slices.Clone(whole), make([]byte, more)...), false)
	}
}

// TestReadLength: P17.1: a length is 1 to 10 digits, spaces behind; so many bytes are there.
func TestReadLength(t *testing.T) {
	for length, want := range map[string]bool{
		"4         ": true, "04        ": true, "000000004 ": true, "0000000004": true,
		"          ": false, " 4        ": false, "         4": false, "4        4": false, "0 4       ": false, "4 0       ": false,
		"+4        ": false, "-4        ": false, "-0        ": false, "4.        ": false, "0x4       ": false, "0b100     ": false, "0o4       ": false, "0_4       ": false, "_4        ": false, "4_        ": false,
		"4e0       ": false, "4x        ": false, "4\x00        ": false, "4\x00\x00\x00\x00\x00\x00\x00\x00\x00": false, "4\t        ": false, "4\n        ": false, "4        \n": false, "4        `": false,
		"0         ": false, "1         ": false, "2         ": false, "3         ": false, "5         ": false, "6         ": false, "14        ": false, "40        ": false,
		"255       ": false, "260       ": false, "65540     ": false, "2147483647": false, "2147483648": false, "2147483652": false, "4294967295": false, "4294967296": false, "4294967300": false, "9999999999": false, "8589934596": false,
	} {
		must(t, "a length: "+length, file(sized(length, "wxyz")), want)
		must(t, "a length ahead of a member: "+length, file(sized(length, "wxyz"), part("b/", "c")), want)
	}
	// A letter that is a digit elsewhere.
	must(t, "a wide digit", file(sized("４       ", "wxyz")), false)
	for n := range 12 {
		for have := range 12 {
			b := file(sized(fmt.Sprintf("%-10d", n), strings.Repeat("x", have)))
			b = b[:68+have]
			must(t, "so many bytes", b, n == have)
		}
	}
	// A length may have in it what looks like a member.
	reads(t, "a member within", file(part("a/", part("b/", "1"))), "", "a", part("b/", "1"))
}

// TestReadHeaderEnd: P17.1: a header ends with "`" and a LF.
func TestReadHeaderEnd(t *testing.T) {
	for at := 58; at < 60; at++ {
		for c := range 256 {
			b := file(part("a/", "x"), part("b/", "y"))
			old := b[8+at]
			b[8+at] = byte(c)
			must(t, "another end", b, byte(c) == old)
			b = file(part("a/", "x"), part("b/", "y"))
			b[8+62+at] = byte(c)
			must(t, "another end of the last", b, byte(c) == old)
		}
	}
}

// TestReadOdd: P17.1: a LF behind an odd number of bytes, no other byte; at the end alone it may lack; none behind an even number.
func TestReadOdd(t *testing.T) {
	for _, name := range []string{"a/", "/", "//"} {
		odd, even := part(name, "xyz"), part(name, "wxyz")
		must(t, "with its LF", file(odd), true)
		must(t, "with its LF, another behind", file(odd, part("b/", "")), true)
		must(t, "its LF lacks at the end", file(odd[:63]), true)
		must(t, "its LF lacks", file(odd[:63], part("b/", "")), false)
		must(t, "two LFs", file(odd, "\n"), false)
		must(t, "two LFs, another behind", file(odd, "\n", part("b/", "")), false)
		must(t, "a LF that isn't asked for", file(even, "\n"), false)
		must(t, "a LF that isn't asked for, another behind", file(even, "\n", part("b/", "")), false)
		for c := range 256 {
			must(t, "another byte at the end", file(odd[:63], string([]byte{byte(c)})), c == 10)
			must(t, "another byte", file(odd[:63], string([]byte{byte(c)}), part("b/", "")), c == 10)
		}
	}
	reads(t, "LFs of its own", file(part("a/", "\n"), part("b/", "\n\n"), part("c/", "x\n\n")[:63]), "", "a", "\n", "b", "\n\n", "c", "x\n\n")
}

// TestReadSaysNothing: P17.1: 32 bytes of a header say nothing, whatever they are.
func TestReadSaysNothing(t *testing.T) {
	for at := 16; at < 48; at++ {
		for c := range 256 {
			b := file(part("/", "i"), part("a/", "x"))
			b[8+at], b[8+62+at] = byte(c), byte(c)
			reads(t, "they say nothing", b, "i", "a", "x")
		}
	}
}

// TestReadIndex: P17.1: the index is the first member alone, and may be empty.
func TestReadIndex(t *testing.T) {
	index, long, a := part("/", "\x00\x01 index/\n"), part("//", "name/\n"), part("a/", "x")
	reads(t, "alone", file(index), "\x00\x01 index/\n")
	reads(t, "an empty one", file(part("/", "")), "")
	reads(t, "an empty one, and a member", file(part("/", ""), a), "", "a", "x")
	reads(t, "ahead of a member", file(index, a), "\x00\x01 index/\n", "a", "x")
	reads(t, "ahead of long names", file(index, long, part("/0", "x")), "\x00\x01 index/\n", "name", "x")
	must(t, "behind a member", file(a, index), false)
	must(t, "between members", file(a, index, a), false)
	must(t, "behind long names", file(long, index), false)
	must(t, "behind long names, ahead of a member", file(long, index, a), false)
	must(t, "twice", file(index, index), false)
	must(t, "twice, empty", file(part("/", ""), part("/", "")), false)
	must(t, "twice, parted", file(index, a, index), false)
	must(t, "twice, parted by long names", file(index, long, index), false)
	for at := 1; at < 16; at++ {
		for c := range 256 {
			b := file(index, a)
			b[8+at] = byte(c)
			slash := at == 1 && c == '/'
			must(t, "something behind it", b, c == ' ' || slash)
		}
	}
}

// TestReadLong: P17.1: long names stand ahead of all but the index, once.
func TestReadLong(t *testing.T) {
	index, long, a := part("/", "i"), part("//", "name/\nother/\n"), part("a/", "x")
	reads(t, "alone", file(long), "")
	reads(t, "empty", file(part("//", "")), "")
	reads(t, "empty, ahead of a member", file(part("//", ""), a), "", "a", "x")
	reads(t, "ahead of members", file(long, part("/6", "x"), a, part("/0", "y")), "", "other", "x", "a", "x", "name", "y")
	reads(t, "behind the index", file(index, long, part("/6", "x")), "i", "other", "x")
	reads(t, "nobody's", file(part("//", "\x00/\n//\n/\nno end"), a), "", "a", "x")
	must(t, "behind a member", file(a, long), false)
	must(t, "behind the index and a member", file(index, a, long), false)
	must(t, "twice", file(long, long), false)
	must(t, "twice, empty", file(part("//", ""), part("//", "")), false)
	must(t, "twice, behind the index", file(index, long, long), false)
	must(t, "twice, parted", file(long, a, long), false)
	must(t, "not there", file(part("/0", "x")), false)
	must(t, "not there, but an index", file(part("/", "name/\n"), part("/0", "x")), false)
	must(t, "not there yet", file(part("/0", "x"), long), false)
	must(t, "empty", file(part("//", ""), part("/0", "x")), false)
	for at := 2; at < 16; at++ {
		for c := range 256 {
			b := file(long, a)
			b[8+at] = byte(c)
			must(t, "something behind it", b, c == ' ')
		}
	}
}

// TestReadLongPlace: P17.1: a long name is what stands from its place on up to the next "/" and LF, wherever others begin.
func TestReadLongPlace(t *testing.T) {
	long := "one/\ntwo two/\n/\na/b/\nc\n/\nd\x00/\n \xff/\n//\nlast/"
	for at := range len(long) + 3 {
		name, _, ended := strings.Cut(long[min(at, len(long)):], "/\n")
		good := ended && name != "" && !strings.ContainsAny(name, "\x00/\n")
		b := file(part("//", long), part(fmt.Sprintf("/%d", at), "x"))
		must(t, fmt.Sprint("place ", at), b, good)
		if good {
			reads(t, fmt.Sprint("place ", at), b, "", name, "x")
		}
	}
	long = "name/\n"
	for field, want := range map[string]bool{
		"/0": true, "/00": true, "/000000000000000": true, "/2": true, "/000000000000002": true, "/4": false, "/5": false, "/6": false, "/7": false,
		"/ 0": false, "/0 0": false, "/0/": false, "/0x": false, "/x": false, "/-0": false, "/+0": false, "/0x0": false, "/0_0": false, "/0\n": false, "/0\x00": false, "/0\t": false, "//0": false, "0": false, "/\x00": false, "/\n": false,
		"/256": false, "/65536": false, "/4294967296": false, "/4294967298": false, "/18446744073709": false, "/999999999999999": false,
	} {
		must(t, "a place: "+field, file(part("//", long), part(field, "x")), want)
	}
	// The bytes behind the long names are not theirs.
	must(t, "ended by the next header", file(part("//", "ab"), part("/0", "/\n")), false)
	must(t, "ended by the LF behind", file(part("//", "abcd/"), part("/0", "x")), false)
}

// TestReadShort: P17.1: a short name stands ahead of the first "/", and spaces alone behind it: each place of it as each byte.
func TestReadShort(t *testing.T) {
	for field, want := range map[string]string{
		"a/": "a", "a.o/": "a.o", "fifteen letters/": "fifteen letters", " /": " ", "  a  /": "  a  ", "0/": "0", "12/": "12", "\xff\x80/": "\xff\x80", "é/": "é", "`\r\t/": "`\r\t", "!<arch>/": "!<arch>",
	} {
		// The field is filled up byte by byte, not letter by letter.
		b := file(part("", "x"))
		copy(b[8:], field)
		reads(t, field, b, "", want, "x")
	}
	for _, field := range []string{"", "a", "sixteen letters!", "a/b", "a/b/", "a//", "a/ /", "a/ b", "a/0", "a /0", "a\x00/", "\x00/", "a/\x00", "a\n/", "a/\n", "\n/", "//b", "/a/", "//0/", "///"} {
		must(t, field, file(part(field, "x")), false)
		must(t, field+" behind long names", file(part("//", "name/\n"), part(field, "x")), false)
	}
	for at := range 16 {
		for _, name := range []string{"a/", "name of a memb/", "fifteen letters/", "/12", "/", "//", ""} {
			for c := range 256 {
				b := file(part("//", "a name, and one more/\n"), part(name, "x"), part("b/", ""))
				b[8+82+at] = byte(c)
				checked(t, "another byte in a name", b)
			}
		}
	}
}

// TestReadNameLimit: P17.1: names have 1 to MaxName bytes, wherever they begin.
func TestReadNameLimit(t *testing.T) {
	for _, n := range []int{1, 2, 15, 16, 17, 100, api.MaxName - 1, api.MaxName, api.MaxName + 1, api.MaxName + 2, api.MaxName + 3, 255, 256, 1000, 1 << 16} {
		name := strings.Repeat("n", n)
		for _, ahead := range []string{"", "x/\n", strings.Repeat("y/\n", 1000)} {
			b := file(part("//", ahead+name+"/\n"), part(fmt.Sprintf("/%d", len(ahead)), "x"))
			must(t, fmt.Sprint("a name of ", n), b, n <= 200)
			if n <= 200 {
				reads(t, fmt.Sprint("a name of ", n), b, "", name, "x")
			}
			must(t, fmt.Sprint("a name without an end, of ", n), file(part("//", ahead+name), part(fmt.Sprintf("/%d", len(ahead)), "x")), false)
			must(t, fmt.Sprint("a name with half an end, of ", n), file(part("//", ahead+name+"/"), part(fmt.Sprintf("/%d", len(ahead)), "x")), false)
			must(t, fmt.Sprint("a name's last bytes, of ", n), file(part("//", ahead+name+"/\n"), part(fmt.Sprintf("/%d", len(ahead)+max(0, n-200)), "x")), true)
			must(t, fmt.Sprint("a name's last bytes and one, of ", n), file(part("//", ahead+"n"+name+"/\n"), part(fmt.Sprintf("/%d", len(ahead)+max(0, n-200)), "x")), n < 200)
		}
	}
	// A name in a header can't be too long; the longest has its slash as the last byte.
	reads(t, "the longest in a header", file(part(strings.Repeat("n", 15)+"/", "x")), "", strings.Repeat("n", 15), "x")
	must(t, "no room for its slash", file(part(strings.Repeat("n", 16), "x")), false)
}

// TestReadMembers: P17.1: at most MaxMembers members that are neither the index nor the long names.
func TestReadMembers(t *testing.T) {
	for _, n := range []int{99, 100, 101, 102, 1000, 17000} {
		many := strings.Repeat(part("a/", ""), n)
		must(t, fmt.Sprint(n, " members"), file(many), n <= 100)
		must(t, fmt.Sprint(n, " members, an index"), file(part("/", ""), many), n <= 100)
		must(t, fmt.Sprint(n, " members, long names"), file(part("//", ""), many), n <= 100)
		must(t, fmt.Sprint(n, " members, both"), file(part("/", "i"), part("//", "n/\n"), many), n <= 100)
		must(t, fmt.Sprint(n, " members with long names"), file(part("//", "n/\n"), strings.Repeat(part("/0", "x"), n)), n <= 100)
	}
}

// TestReadFile: P17.1: at most MaxFile bytes, whoever has them.
func TestReadFile(t *testing.T) {
	for _, name := range []string{"a/", "/", "//"} {
		for _, n := range []int{1<<20 - 2, 1<<20 - 1, 1 << 20, 1<<20 + 1, 1<<20 + 2, 1 << 21} {
			// Of an odd number of bytes the LF lacks.
			b := file(part(name, strings.Repeat("x", n-68)))[:n]
			must(t, fmt.Sprint(name, " in ", n, " bytes"), b, n <= 1<<20)
		}
		b := file(part(name, strings.Repeat("x", 1<<20-69)))
		must(t, name+": the LF is the last byte", b, len(b) == 1<<20)
		b = file(part(name, strings.Repeat("x", 1<<20-67)))
		must(t, name+": the LF is one byte too many", b, false)
		must(t, name+": without the LF, one byte too many", b[:1<<20+1], false)
	}
	must(t, "far too many bytes", file(part("a/", strings.Repeat("x", 1<<26))), false)
	great := strings.Repeat("x", 1<<20-128-100*60)
	must(t, "each looks for a name's end in vain", file(part("//", great), part("/0", ""), part("/1", "")), false)
}

// TestReadEachByte: P17.1: each byte of an archive as each other one.
func TestReadEachByte(t *testing.T) {
	whole := file(part("/", "ind"), part("//", "nam/\nxy/\n"), part("/5", "wxyz"), part("a.o/", "1"), part("/0", ""))
	must(t, "as it was", whole, true)
	for at := range whole {
		for c := range 256 {
			b := slices.Clone(whole)
			b[at] = byte(c)
			checked(t, fmt.Sprintf("byte %d is %d", at, c), b)
		}
	}
}

// anyField: what may stand in a header where the name does, right or nearly so.
func anyField(rnd *rand.Rand) string {
	switch rnd.Intn(12) {
	case 0:
		return "/"
	case 1:
		return "//"
	case 2, 3, 4, 5:
		return fmt.Sprintf("/%d", rnd.Intn(12))
	}
	var s []byte
	for range 1 + rnd.Intn(15) {
		s = append(s, "abc. \xff0"[rnd.Intn(7)])
	}
	if rnd.Intn(60) == 0 {
		s[rnd.Intn(len(s))] = "\x00\n/"[rnd.Intn(3)]
	}
	return string(s) + "/"
}

// anyFile: bytes that are often an archive.
func anyFile(rnd *rand.Rand) []byte {
	b := file()
	for i := range rnd.Intn(7) {
		field := anyField(rnd)
		if rnd.Intn(4) > 0 {
			field = [...]string{"/", "//", field, field, field, field, field}[i]
		}
		data := make([]byte, rnd.Intn(9))
		rnd.Read(data)
		if field == "//" {
			data = []byte("long 1/\nb/\nc/\n")[:14-rnd.Intn(2)]
		}
		p := []byte(part("", string(data)))
		copy(p, field)
		b = append(b, p...)
	}
	return b
}

// TestReadAny: P17.1: any archives, and what is nearly one.
func TestReadAny(t *testing.T) {
	rnd := rand.New(rand.NewSource(17))
	good, wrong := 0, 0
	for range 60000 {
		b := anyFile(rnd)
		for range rnd.Intn(3) {
			switch rnd.Intn(3) {
			case 0:
				b = b[:rnd.Intn(len(b)+1)]
			case 1:
				at := rnd.Intn(len(b) + 1)
				b = slices.Insert(b, at, "\n/ `0"[rnd.Intn(5)])
			case 2:
				if len(b) > 0 {
					b[rnd.Intn(len(b))] ^= 1 << rnd.Intn(8)
				}
			}
		}
		if checked(t, "any", b) {
			good++
		} else {
			wrong++
		}
	}
	if good < 5000 || wrong < 5000 {
		t.Errorf("P17.1: %d good ones, %d wrong ones", good, wrong)
	}
}

// TestReadOwnMemory: P17.1: what is handed in isn't changed, nor kept, nor is what lies behind it told; answers share nothing with one another.
func TestReadOwnMemory(t *testing.T) {
	whole := file(part("/", "ind"), part("//", "long name/\n"), part("/0", "one"), part("a/", "two"), part("b/", "six"))
	old := slices.Clone(whole)
	cut := whole[:len(whole)-1]
	members, index, e := Read(cut)
	again, indexAgain, _ := Read(cut)
	if e != api.OK || !bytes.Equal(whole, old) {
		t.Fatalf("P17.1: %v, %s", e, short(whole))
	}
	for i := range members {
		members[i].B = append(members[i].B, "behind it"...)
		clear(members[i].B)
	}
	index = append(index, "behind it"...)
	clear(index)
	if !bytes.Equal(whole, old) {
		t.Errorf("P17.1: an answer shares memory with what was handed in: %s", short(whole))
	}
	clear(whole)
	want := []api.Member{{Name: "long name", B: []byte("one")}, {Name: "a", B: []byte("two")}, {Name: "b", B: []byte("six")}}
	if !same(again, want) || string(indexAgain) != "ind" {
		t.Errorf("P17.1: answers share memory: %s, %s", short(again), short(indexAgain))
	}
	again[0].B = append(again[0].B, "xxxxxxxx"...)
	indexAgain = append(indexAgain, "xxxxxxxx"...)
	if !same(again[1:], want[1:]) || string(again[0].B) != "onexxxxxxxx" {
		t.Errorf("P17.1: members share memory: %s", short(again))
	}
	must(t, "a LF in the spare room", old[:len(old)-1], true)
	must(t, "bytes in the spare room", old[:len(old)-2], false)
}

// plainWrite: the chapter's words about an archive that is written.
func plainWrite(l []api.Member, index []byte) string {
	member := func(name string, data []byte) string {
		s := fmt.Sprintf("%-12s%-6s%-6s%-8s%-10d`\n", "0", "0", "0", "644", len(data)) + string(data)
		if len(data)&1 == 1 {
			s += "\n"
		}
		return name + strings.Repeat(" ", 16-len(name)) + s
	}
	s := "!<arch>\n"
	if len(index) > 0 {
		s += member("/", index)
	}
	long := ""
	var names []string
	var places []int
	for _, m := range l {
		if len(m.Name) > 15 && !slices.Contains(names, m.Name) {
			names, places = append(names, m.Name), append(places, len(long))
			long += m.Name + "/\n"
		}
	}
	if len(names) > 0 {
		s += member("//", []byte(long))
	}
	for _, m := range l {
		if i := slices.Index(names, m.Name); i >= 0 {
			s += member(fmt.Sprintf("/%d", places[i]), m.B)
		} else {
			s += member(m.Name+"/", m.B)
		}
	}
	return s
}

// writes: that Write tells what plainWrite does, and that Read tells it again, if it has room in a file.
func writes(t *testing.T, what string, l []api.Member, index []byte) []byte {
	t.Helper()
	b := Write(l, index)
	if want := plainWrite(l, index); string(b) != want {
		t.Fatalf("P17.2: %s: %s, wanted %s", what, short(b), short(want))
	}
	got, gotIndex, e := Read(b)
	if len(l) > 100 || len(b) > 1<<20 {
		if len(got) > 0 || len(gotIndex) > 0 || e != api.ErrAr {
			t.Fatalf("P17.3: %s: %d members, %d bytes: %v", what, len(l), len(b), e)
		}
		return b
	}
	if !same(got, l) || !bytes.Equal(gotIndex, index) || e != api.OK {
		t.Fatalf("P17.3: %s: %s, %s, %v, wanted %s, %s", what, short(got), short(gotIndex), e, short(l), short(index))
	}
	return b
}

// TestWrite: P17.2: archives as they are written down, each byte of them.
func TestWrite(t *testing.T) {
	x := []byte("xyz")
	for _, c := range []struct {
		l     []api.Member
		index string
		want  string
	}{
		{nil, "", "!<arch>\n"},
		{[]api.Member{}, "", "!<arch>\n"},
		{nil, "in", "!<arch>\n/               0           0     0     644     2         `\nin"},
		{nil, "ind", "!<arch>\n/               0           0     0     644     3         `\nind\n"},
		{[]api.Member{{Name: "a.o", B: x}}, "", "!<arch>\na.o/            0           0     0     644     3         `\nxyz\n"},
		{[]api.Member{{Name: "fifteen letters", B: x[:2]}}, "", "!<arch>\nfifteen letters/0           0     0     644     2         `\nxy"},
		{[]api.Member{{Name: "sixteen letters!", B: x}}, "", "!<arch>\n//              0           0     0     644     18        `\nsixteen letters!/\n/0              0           0     0     644     3         `\nxyz\n"},
		{[]api.Member{{Name: "seventeen letters", B: x}, {Name: "b"}, {Name: "sixteen letters!"}, {Name: "seventeen letters"}}, "i", "!<arch>\n" +
			"/               0           0     0     644     1         `\ni\n" +
			"//              0           0     0     644     37        `\nseventeen letters/\nsixteen letters!/\n\n" +
			"/0              0           0     0     644     3         `\nxyz\n" +
			"b/              0           0     0     644     0         `\n" +
			"/19             0           0     0     644     0         `\n" +
			"/0              0           0     0     644     0         `\n"},
	} {
		if got := Write(c.l, []byte(c.index)); string(got) != c.want {
			t.Errorf("P17.2: %s: %q, wanted %q", short(c.l), got, c.want)
		}
		writes(t, "written down", c.l, []byte(c.index))
	}
	if got := Write(nil, nil); string(got) != "!<arch>\n" {
		t.Errorf("P17.2: of nothing: %q", got)
	}
}

// named: a member of that name, which has some bytes.
func named(name string) api.Member {
	return api.Member{Name: name, B: []byte(name[:len(name)%3])}
}

// TestWriteNames: P17.2, P17.3: names of each length up to MaxName; all bytes that a name may have; long names once, in order, those that begin or end alike too.
func TestWriteNames(t *testing.T) {
	var l []api.Member
	for n := 1; n <= 200; n++ {
		m := named(strings.Repeat("n", n))
		writes(t, "one name", []api.Member{m}, nil)
		l = append(l, m)
	}
	writes(t, "long ones", l[100:], []byte("i"))
	writes(t, "short ones", l[:15], []byte("i"))
	writes(t, "short ones and long ones", l[:100], nil)
	slices.Reverse(l)
	writes(t, "falling", l[100:], nil)
	writes(t, "each twice", slices.Concat(l[:50], l[:50]), nil)
	for c := range 256 {
		if c == 0 || c == '/' || c == '\n' {
			continue
		}
		s := string([]byte{byte(c)})
		for _, name := range []string{s, s + s, s + "a", "a" + s, strings.Repeat(s, 15), strings.Repeat(s, 16), strings.Repeat(s, 200), "a name of more than fifteen" + s, s + "a name of more than fifteen"} {
			writes(t, "any byte", []api.Member{named(name), named("b"), named(name)}, []byte(s))
		}
	}
	a, b, c := "a name of more than fifteen", "name of more than fifteen", "a name of more than fifteen, and more"
	writes(t, "alike", []api.Member{named(b), named(a), named(c), named(b), named("a"), named(c), named(a)}, nil)
}

// TestWriteData: P17.2, P17.3: bytes of each length, with their LF or without; what looks like something else.
func TestWriteData(t *testing.T) {
	for n := range 300 {
		data := bytes.Repeat([]byte{byte(n)}, n)
		writes(t, "a member", []api.Member{{Name: "a", B: data}}, nil)
		writes(t, "an index", []api.Member{{Name: "a", B: data}}, data)
	}
	for _, n := range []int{999, 1000, 9999, 10000, 99999, 100000, 999999, 1000000} {
		writes(t, "a length of many digits", []api.Member{{Name: "a", B: make([]byte, n)}, {Name: "b"}}, nil)
		writes(t, "an index with a length of many digits", []api.Member{{Name: "b"}}, make([]byte, n))
	}
	within := Write([]api.Member{named("a"), named("sixteen letters!")}, []byte("i"))
	writes(t, "archives in an archive", []api.Member{{Name: "a", B: within}, {Name: "b", B: []byte("\n")}, {Name: "c", B: []byte("\n\n\n")}, {Name: "d", B: []byte("/\n")}}, within)
}

// TestWriteLimits: P17.2, P17.3: at MaxMembers and MaxFile, and one past them: such bytes are told, but they are no archive that can be read.
func TestWriteLimits(t *testing.T) {
	for _, n := range []int{99, 100, 101, 1000} {
		writes(t, "many members", slices.Repeat([]api.Member{named("a")}, n), nil)
		writes(t, "many members with long names", slices.Repeat([]api.Member{named("sixteen letters!")}, n), []byte("i"))
	}
	for n := 1<<20 - 75; n < 1<<20-60; n++ {
		writes(t, "a great member", []api.Member{{Name: "a", B: make([]byte, n)}}, nil)
		writes(t, "a great index", nil, make([]byte, n))
	}
	if b := writes(t, "as great as may be", []api.Member{{Name: "a", B: make([]byte, 1<<20-68)}}, nil); len(b) != api.MaxFile {
		t.Errorf("P17.2: %d bytes", len(b))
	}
	// A long name stands once however many members have it.
	l := make([]api.Member, 20000)
	for i := range l {
		l[i].Name = fmt.Sprintf("a name of more than fifteen: %d", i/2)
	}
	if b := Write(l, nil); len(b) < 20000*60 || !bytes.Contains(b, []byte("\na name of more than fifteen: 9999/\n")) {
		t.Errorf("P17.2: many names: %d bytes", len(b))
	}
}

// TestWriteWrongNames: P17.2: of names that may not be it ends.
func TestWriteWrongNames(t *testing.T) {
	for _, name := range []string{"", "/", "//", "/0", "a/", "a/b", "\n", "\x00", "a\n", "a name of more than fifteen/\n", "////////////////", strings.Repeat("n", 201), strings.Repeat("n", 1<<22), strings.Repeat("/\n", 1<<20)} {
		b := Write([]api.Member{{Name: name, B: []byte("x")}, {Name: "a"}, {Name: name}}, []byte("i"))
		if !bytes.HasPrefix(b, []byte("!<arch>\n")) {
			t.Errorf("P17.2: %s: %s", short(name), short(b))
		}
		checked(t, short(name), b)
	}
}

// TestWriteAny: P17.2, P17.3: any members, and any index.
func TestWriteAny(t *testing.T) {
	rnd := rand.New(rand.NewSource(18))
	lengths := []int{1, 2, 14, 15, 16, 17, 30, 199, 200}
	for range 20000 {
		var l []api.Member
		for range rnd.Intn(6) {
			if len(l) > 0 && rnd.Intn(4) == 0 {
				l = append(l, l[rnd.Intn(len(l))])
				continue
			}
			name := make([]byte, lengths[rnd.Intn(len(lengths))])
			for i := range name {
				for name[i] == 0 || name[i] == '/' || name[i] == '\n' {
					name[i] = byte(rnd.Intn(256))
				}
			}
			data := make([]byte, rnd.Intn(70))
			rnd.Read(data)
			l = append(l, api.Member{Name: string(name), B: data})
		}
		index := make([]byte, max(0, rnd.Intn(20)-8))
		rnd.Read(index)
		b := writes(t, "any", l, index)
		got, gotIndex, _ := Read(b)
		if again := Write(got, gotIndex); !bytes.Equal(again, b) {
			t.Fatalf("P17.3: written again: %s, wanted %s", short(again), short(b))
		}
	}
}

// TestWriteOwnMemory: P17.2: what is handed in isn't changed, nor kept, nor is the spare room behind it told.
func TestWriteOwnMemory(t *testing.T) {
	room := []byte("indexonetwospare")
	old := slices.Clone(room)
	all := []api.Member{{Name: "a", B: room[5:8]}, {Name: "sixteen letters!", B: room[8:11]}, {Name: "spare", B: room[11:]}}
	l, index := all[:2], room[:5]
	want := plainWrite(l, index)
	first, second := Write(l, index), Write(l, index)
	if string(first) != want || string(second) != want {
		t.Fatalf("P17.2: %s, %s, wanted %s", short(first), short(second), short(want))
	}
	first = append(first, "behind it"...)
	clear(first)
	if string(second) != want || !bytes.Equal(room, old) || len(all) != 3 || all[2].Name != "spare" || all[0].Name != "a" || string(all[1].B) != "two" {
		t.Errorf("P17.2: what was handed in was changed: %s, %s", short(room), short(all))
	}
	clear(room)
	clear(all)
	if string(second) != want {
		t.Errorf("P17.2: an answer shares memory with what was handed in: %s", short(second))
	}
}
