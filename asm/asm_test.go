package asm

import (
	"encoding/binary"
	"fmt"
	"math"
	"math/rand"
	"slices"
	"strings"
	"testing"

	"dovetail/api"
	"dovetail/inst"
)

// told: i's text by fmt, as the chapter lists the formats.
func told(i api.Inst) string {
	name := inst.Name(i.Op)
	switch inst.Form(i.Op) {
	case api.FormR:
		return fmt.Sprintf("%s x%d, x%d, x%d", name, i.Rd, i.Rs1, i.Rs2)
	case api.FormI:
		if i.Op == api.JALR || name[0] == 'l' {
			return fmt.Sprintf("%s x%d, %d(x%d)", name, i.Rd, i.Imm, i.Rs1)
		}
		return fmt.Sprintf("%s x%d, x%d, %d", name, i.Rd, i.Rs1, i.Imm)
	case api.FormS:
		return fmt.Sprintf("%s x%d, %d(x%d)", name, i.Rs2, i.Imm, i.Rs1)
	case api.FormB:
		return fmt.Sprintf("%s x%d, x%d, %d", name, i.Rs1, i.Rs2, i.Imm)
	case api.FormU, api.FormJ:
		return fmt.Sprintf("%s x%d, %d", name, i.Rd, i.Imm)
	}
	if name == "" {
		return "?"
	}
	return name
}

// without: i, with the fields that its operation hasn't as 0.
func without(i api.Inst) api.Inst {
	switch inst.Form(i.Op) {
	case api.FormR:
		i.Imm = 0
	case api.FormI:
		i.Rs2 = 0
	case api.FormS, api.FormB:
		i.Rd = 0
	case api.FormU, api.FormJ:
		i.Rs1, i.Rs2 = 0, 0
	case api.FormN:
		i = api.Inst{Op: i.Op}
	}
	return i
}

// TestTextEach: P5.1: the text of each operation, with operands that have words and with such that have none; what has a word is read again.
func TestTextEach(t *testing.T) {
	registers := []int{0, 1, 9, 10, 31, 32, -1, math.MaxInt, math.MinInt}
	numbers := []int64{0, 4, -4, 31, 32, 63, 64, 2046, 2047, 2048, -2048, -2049, 4094, 4096, -4096, -4098, 524287, 524288, -524288, 1048574, 1048576, -1048576, math.MaxInt64, math.MinInt64}
	for op := range api.Ops {
		for _, r := range registers {
			for _, n := range numbers {
				for _, i := range []api.Inst{{Op: op, Rd: r, Rs1: 2, Rs2: 3, Imm: n}, {Op: op, Rd: 1, Rs1: r, Rs2: 3, Imm: n}, {Op: op, Rd: 1, Rs1: 2, Rs2: r, Imm: n}} {
					holdText(t, i)
				}
			}
		}
	}
}

func holdText(t *testing.T, i api.Inst) {
	t.Helper()
	s := Text(i)
	if want := told(i); s != want {
		t.Fatalf("P5.1: Text(%v): %q, wanted %q", i, s, want)
	}
	want := without(i)
	_, has := inst.Encode(want)
	if !has {
		want = api.Inst{}
	}
	if got, ok := Parse(s); got != want || ok != has {
		t.Fatalf("P5.1: Parse(%q): %v, %v; wanted %v, %v", s, got, ok, want, has)
	}
}

// TestTextNone: P5.1: what is no operation.
func TestTextNone(t *testing.T) {
	for _, op := range []int{0, -1, api.Ops, api.Ops + 1, math.MinInt, math.MaxInt} {
		if got := Text(api.Inst{Op: op, Rd: 1, Rs1: 2, Rs2: 3, Imm: 4}); got != "?" {
			t.Errorf("P5.1: op %d: %q", op, got)
		}
	}
}

// TestTextLiteral: P5.1: a text of each form, as it stands.
func TestTextLiteral(t *testing.T) {
	for s, i := range map[string]api.Inst{
		"lw x5, -4(x2)":         {Op: api.LW, Rd: 5, Rs1: 2, Imm: -4},
		"jalr x0, 2047(x31)":    {Op: api.JALR, Rs1: 31, Imm: 2047},
		"add x10, x20, x30":     {Op: api.ADD, Rd: 10, Rs1: 20, Rs2: 30},
		"sraiw x1, x2, 31":      {Op: api.SRAIW, Rd: 1, Rs1: 2, Imm: 31},
		"sb x7, -2048(x8)":      {Op: api.SB, Rs1: 8, Rs2: 7, Imm: -2048},
		"bgeu x3, x4, -4096":    {Op: api.BGEU, Rs1: 3, Rs2: 4, Imm: -4096},
		"auipc x6, -524288":     {Op: api.AUIPC, Rd: 6, Imm: -524288},
		"jal x1, -1048576":      {Op: api.JAL, Rd: 1, Imm: -1048576},
		"fence":                 {Op: api.FENCE},
		"mulhsu x29, x28, x27":  {Op: api.MULHSU, Rd: 29, Rs1: 28, Rs2: 27},
		"ebreak":                {Op: api.EBREAK},
		"addi x0, x0, 0":        {Op: api.ADDI},
		"lui x31, 524287":       {Op: api.LUI, Rd: 31, Imm: 524287},
		"sltiu x11, x12, -2048": {Op: api.SLTIU, Rd: 11, Rs1: 12, Imm: -2048},
	} {
		if got := Text(i); got != s {
			t.Errorf("P5.1: Text(%v): %q, wanted %q", i, got, s)
		}
		if got, ok := Parse(s); got != i || !ok {
			t.Errorf("P5.1: Parse(%q): %v, %v; wanted %v", s, got, ok, i)
		}
	}
}

// wrongTexts: no instruction has one of these.
var wrongTexts = []string{
	"?", "add", "add ", "add x1", "add x1, x2", "add x1, x2,", "add x1, x2, ", "add x1, x2, x", "add x1, x2, x3, ", "add x1, x2, x3x",
	"Add x1, x2, x3", "add X1, x2, x3", "add\tx1, x2, x3", "add x1,x2, x3", "add x1 , x2, x3", "add x1,  x2, x3", "add x1; x2, x3", "add x1, x2, x3\x00", "add x1, x2, x3#",
	"add x-0, x2, x3", "add x00, x2, x3", "add x1, x+2, x3", "add x1, x2, x32", "add x-1, x2, x3", "add x1_0, x2, x3", "add x4294967296, x0, x0", "add x18446744073709551616, x0, x0", "add xa, x2, x3", "add x1, sp, x3", "add x1, x2, 3", "add x1, x2, x3(x4)",
	"addi x1, x2", "addi x1, x2, x3", "addi x1, x2, ", "addi x1, x2, -", "addi x1, x2, --1", "addi x1, x2, 1-", "addi x1, x2, - 1", "addi x1, x2, +1", "addi x1, x2, -0", "addi x1, x2, 00", "addi x1, x2, -01", "addi x1, x2, 0x1", "addi x1, x2, 1_0", "addi x1, x2, 1.0", "addi x1, x2, 2048", "addi x1, x2, -2049", "addi x1, x2, 9223372036854775808", "addi x1, x2, -9223372036854775809", "addi x1, x2, 18446744073709551616", "addi x1, 3(x2)",
	"slli x1, x2, 64", "slli x1, x2, -1", "slliw x1, x2, 32", "srai x1, x2, 1024",
	"lw x1, x2, 3", "lw x1, 3", "lw x1, 3(", "lw x1, 3(x", "lw x1, 3(x2", "lw x1, 3(x2))", "lw x1, 3(2)", "lw x1, (x2)", "lw x1, 3[x2]", "lw x1, 3 (x2)", "lw x1, 2048(x2)", "jalr x1, x2, 0", "jalr x1", "ld 0(x1), x2",
	"sd x1, x2, 3", "sd x1, 3(x2", "sd x1, 3(2)", "sd x32, 3(x2)", "sd x1, 2048(x2)", "sd 3(x2), x1",
	"beq x1, x2, 1", "beq x1, x2, 4096", "beq x1, x2, -4098", "beq x1, 4(x2)", "beq x1, x2, x3",
	"lui x1", "lui x1, 524288", "lui x1, -524289", "lui x1, x2", "lui 1, 2", "lui x1, 1, 2", "jal 8", "jal x1, 1", "jal x1, 1048576", "jal x1, -1048578",
	"ecall ecall", "ecall x0", "ecall 0", "fence x0, x0", "ebreak?", "ecall,", "nop", "mv x1, x2", ".word 1", "ＡＤＤ x1, x2, x3", "addi x1, x2, ٣", "\xff",
}

// TestParseWrong: P5.1: texts that no instruction with a word has.
func TestParseWrong(t *testing.T) {
	for _, s := range append([]string{"", " ", "#", "\n", "ecall\n", "ecall ", " ecall", "add x1, x2, x3 ", " add x1, x2, x3", "add  x1, x2, x3", "add x1, x2, x3\r"}, wrongTexts...) {
		if got, ok := Parse(s); got != (api.Inst{}) || ok {
			t.Errorf("P5.1: Parse(%q): %v, %v; wanted none", s, got, ok)
		}
	}
}

// TestParseNear: P5.1: a text with a byte changed, left out or put in is taken just where it is a text again.
func TestParseNear(t *testing.T) {
	rnd := rand.New(rand.NewSource(51))
	bytes := "x0123456789-, ()+abdilsuw#\t\n?X\x00\xff"
	for range 60000 {
		i, ok := inst.Decode(anyWord(rnd))
		if !ok {
			t.Fatal("no word")
		}
		s := Text(i)
		at, b := rnd.Intn(len(s)), bytes[rnd.Intn(len(bytes)):][:1]
		for _, near := range []string{s[:at] + s[at+1:], s[:at] + b + s[at:], s[:at] + b + s[at+1:], s[:at], s + b} {
			got, ok := Parse(near)
			_, has := inst.Encode(got)
			if ok && (told(got) != near || !has || got != without(got)) || !ok && got != (api.Inst{}) {
				t.Fatalf("P5.1: Parse(%q): %v, %v", near, got, ok)
			}
		}
	}
}

// anyWord: the word of an instruction.
func anyWord(rnd *rand.Rand) uint32 {
	for {
		w := rnd.Uint32() | 3
		if i, ok := inst.Decode(w); ok && (i.Op != api.FENCE || w == 0xf) {
			return w
		}
		if rnd.Intn(100) == 0 {
			return [...]uint32{0xf, 0x73, 0x100073}[rnd.Intn(3)]
		}
	}
}

// TestLines: P5.2: lines that are instructions, remarks, empty ones.
func TestLines(t *testing.T) {
	for _, c := range []struct {
		s    string
		want []uint32
	}{
		{"", nil},
		{"\n", nil},
		{"\n\n\n", nil},
		{"   ", nil},
		{"#", nil},
		{"   # add\n#\n# ?\n##", nil},
		{"ecall", []uint32{0x73}},
		{"ecall\n", []uint32{0x73}},
		{"\necall\n\n", []uint32{0x73}},
		{"ecall\nebreak", []uint32{0x73, 0x100073}},
		{"  addi x0, x0, 0   \n    \n\nlw x5, -4(x2)\n#ecall\n fence", []uint32{0x13, 0xffc12283, 0xf}},
		{"addi x1, x2, -1\naddi x1, x2, -1\n#\xff\r\t\n", []uint32{0xfff10093, 0xfff10093}},
	} {
		if got, line := Lines(c.s); !slices.Equal(got, c.want) || line != 0 {
			t.Errorf("P5.2: Lines(%q): %#x, %d; wanted %#x", c.s, got, line, c.want)
		}
	}
}

// TestLinesWrong: P5.2: the first line that is wrong, whatever stands ahead of it and behind it.
func TestLinesWrong(t *testing.T) {
	for s, want := range map[string]int{
		"x":                         1,
		"\nx":                       2,
		"ecall\n\n#\n  x  \ny\n":    4,
		"ecall\r\n":                 1,
		"ecall\n\tecall":            2,
		"ecall\necall\t\n":          2,
		"ecall # all":               1,
		"ecall; ecall":              1,
		"ecall ecall":               1,
		"\u00a0ecall":               1,
		"\v":                        1,
		"\r":                        1,
		"\n\n\n\x00":                4,
		"ecall\nadd x1, x2, x32\n?": 2,
		strings.Repeat("ecall\n", 999) + "slli x1, x1, 64": 1000,
	} {
		if got, line := Lines(s); len(got) != 0 || line != want {
			t.Errorf("P5.2: Lines(%q): %#x, %d; wanted line %d", s, got, line, want)
		}
	}
	for _, s := range wrongTexts {
		for ahead, want := range map[string]int{"": 1, "ecall\n": 2, "\n  # \n ": 3} {
			if got, line := Lines(ahead + s + "\necall\n"); len(got) != 0 || line != want {
				t.Errorf("P5.2: Lines(%q): %#x, %d; wanted line %d", ahead+s, got, line, want)
			}
		}
	}
}

// TestDump: P5.2: words with and without an instruction, bytes that are left over; b and its spare room stay.
func TestDump(t *testing.T) {
	for _, c := range []struct {
		b    []byte
		want string
	}{
		{nil, ""},
		{[]byte{}, ""},
		{[]byte{0x73, 0, 0}, ""},
		{[]byte{0x73, 0, 0, 0}, "ecall\n"},
		{[]byte{0, 0, 0, 0}, "?\n"},
		{[]byte{0x83, 0x22, 0xc1, 0xff}, "lw x5, -4(x2)\n"},
		{[]byte{0x13, 0, 0, 0, 0xff, 0xff, 0xff, 0xff, 0x8f, 0x8f, 0xff, 0xff, 0x73}, "addi x0, x0, 0\n?\nfence\n"},
		{[]byte{0x73, 0, 0, 0, 0x73, 0, 0}, "ecall\n"},
	} {
		room := append(slices.Clone(c.b), 0x73, 0, 0, 0, 0x73)
		was := slices.Clone(room)
		if got := Dump(room[:len(c.b)]); got != c.want {
			t.Errorf("P5.2: Dump(%x): %q, wanted %q", c.b, got, c.want)
		}
		if !slices.Equal(room, was) {
			t.Errorf("P5.2: Dump(%x) changed it to %x", was, room)
		}
	}
}

// TestDumpAny: P5.2: any bytes: a line for each word.
func TestDumpAny(t *testing.T) {
	rnd := rand.New(rand.NewSource(52))
	for range 2000 {
		b := make([]byte, rnd.Intn(80))
		rnd.Read(b)
		want := ""
		for k := 0; k+4 <= len(b); k += 4 {
			i, _ := inst.Decode(binary.LittleEndian.Uint32(b[k:]))
			want += told(i) + "\n"
		}
		if got := Dump(b); got != want {
			t.Fatalf("P5.2: Dump(%x): %q, wanted %q", b, got, want)
		}
	}
}

// TestThereAndBack: P5.3: words that are told are read as they were; beside a word that is none its line is refused.
func TestThereAndBack(t *testing.T) {
	rnd := rand.New(rand.NewSource(53))
	for range 1000 {
		var b []byte
		var words []uint32
		for range rnd.Intn(40) {
			w := anyWord(rnd)
			b, words = binary.LittleEndian.AppendUint32(b, w), append(words, w)
		}
		got, line := Lines(Dump(b))
		if !slices.Equal(got, words) || line != 0 {
			t.Fatalf("P5.3: %#x: %#x, %d", words, got, line)
		}
		got, line = Lines(Dump(append(b, 0, 0, 0, 0, 0x73, 0, 0, 0)))
		if len(got) != 0 || line != len(words)+1 {
			t.Fatalf("P5.3: beside a wrong word: %#x, %d", got, line)
		}
	}
}
