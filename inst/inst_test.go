package inst

import (
	"math"
	"math/rand"
	"strings"
	"testing"

	"dovetail/api"
	"dovetail/imm"
)

// manual: the manual's listing, an operation a line: its format, its name, its word's bits from the highest on; a letter stands for an operand's bit. Their order is the one of package api.
const manual = `
U lui    iiiiiiiiiiiiiiiiiiii ddddd 0110111
U auipc  iiiiiiiiiiiiiiiiiiii ddddd 0010111
J jal    iiiiiiiiiiiiiiiiiiii ddddd 1101111
I jalr   iiiiiiiiiiii sssss 000 ddddd 1100111
B beq    iiiiiii ttttt sssss 000 iiiii 1100011
B bne    iiiiiii ttttt sssss 001 iiiii 1100011
B blt    iiiiiii ttttt sssss 100 iiiii 1100011
B bge    iiiiiii ttttt sssss 101 iiiii 1100011
B bltu   iiiiiii ttttt sssss 110 iiiii 1100011
B bgeu   iiiiiii ttttt sssss 111 iiiii 1100011
I lb     iiiiiiiiiiii sssss 000 ddddd 0000011
I lh     iiiiiiiiiiii sssss 001 ddddd 0000011
I lw     iiiiiiiiiiii sssss 010 ddddd 0000011
I ld     iiiiiiiiiiii sssss 011 ddddd 0000011
I lbu    iiiiiiiiiiii sssss 100 ddddd 0000011
I lhu    iiiiiiiiiiii sssss 101 ddddd 0000011
I lwu    iiiiiiiiiiii sssss 110 ddddd 0000011
S sb     iiiiiii ttttt sssss 000 iiiii 0100011
S sh     iiiiiii ttttt sssss 001 iiiii 0100011
S sw     iiiiiii ttttt sssss 010 iiiii 0100011
S sd     iiiiiii ttttt sssss 011 iiiii 0100011
I addi   iiiiiiiiiiii sssss 000 ddddd 0010011
I slti   iiiiiiiiiiii sssss 010 ddddd 0010011
I sltiu  iiiiiiiiiiii sssss 011 ddddd 0010011
I xori   iiiiiiiiiiii sssss 100 ddddd 0010011
I ori    iiiiiiiiiiii sssss 110 ddddd 0010011
I andi   iiiiiiiiiiii sssss 111 ddddd 0010011
I slli   000000 aaaaaa sssss 001 ddddd 0010011
I srli   000000 aaaaaa sssss 101 ddddd 0010011
I srai   010000 aaaaaa sssss 101 ddddd 0010011
R add    0000000 ttttt sssss 000 ddddd 0110011
R sub    0100000 ttttt sssss 000 ddddd 0110011
R sll    0000000 ttttt sssss 001 ddddd 0110011
R slt    0000000 ttttt sssss 010 ddddd 0110011
R sltu   0000000 ttttt sssss 011 ddddd 0110011
R xor    0000000 ttttt sssss 100 ddddd 0110011
R srl    0000000 ttttt sssss 101 ddddd 0110011
R sra    0100000 ttttt sssss 101 ddddd 0110011
R or     0000000 ttttt sssss 110 ddddd 0110011
R and    0000000 ttttt sssss 111 ddddd 0110011
I addiw  iiiiiiiiiiii sssss 000 ddddd 0011011
I slliw  0000000 aaaaa sssss 001 ddddd 0011011
I srliw  0000000 aaaaa sssss 101 ddddd 0011011
I sraiw  0100000 aaaaa sssss 101 ddddd 0011011
R addw   0000000 ttttt sssss 000 ddddd 0111011
R subw   0100000 ttttt sssss 000 ddddd 0111011
R sllw   0000000 ttttt sssss 001 ddddd 0111011
R srlw   0000000 ttttt sssss 101 ddddd 0111011
R sraw   0100000 ttttt sssss 101 ddddd 0111011
R mul    0000001 ttttt sssss 000 ddddd 0110011
R mulh   0000001 ttttt sssss 001 ddddd 0110011
R mulhsu 0000001 ttttt sssss 010 ddddd 0110011
R mulhu  0000001 ttttt sssss 011 ddddd 0110011
R div    0000001 ttttt sssss 100 ddddd 0110011
R divu   0000001 ttttt sssss 101 ddddd 0110011
R rem    0000001 ttttt sssss 110 ddddd 0110011
R remu   0000001 ttttt sssss 111 ddddd 0110011
R mulw   0000001 ttttt sssss 000 ddddd 0111011
R divw   0000001 ttttt sssss 100 ddddd 0111011
R divuw  0000001 ttttt sssss 101 ddddd 0111011
R remw   0000001 ttttt sssss 110 ddddd 0111011
R remuw  0000001 ttttt sssss 111 ddddd 0111011
N fence  ----------------- 000 ----- 0001111
N ecall  000000000000 00000 000 00000 1110011
N ebreak 000000000001 00000 000 00000 1110011
`

// row: a line of the listing.
type row struct {
	op, form int
	name     string
	bits     string
	mask     uint32
	match    uint32
}

func rows(t *testing.T) []row {
	forms := map[string]int{"R": api.FormR, "I": api.FormI, "S": api.FormS, "B": api.FormB, "U": api.FormU, "J": api.FormJ, "N": api.FormN}
	var out []row
	for _, line := range strings.Split(strings.TrimSpace(manual), "\n") {
		f := strings.Fields(line)
		r := row{op: len(out) + 1, form: forms[f[0]], name: f[1], bits: strings.Join(f[2:], "")}
		if len(r.bits) != 32 {
			t.Fatalf("%s: %d bits", r.name, len(r.bits))
		}
		for _, b := range r.bits {
			r.mask, r.match = r.mask<<1, r.match<<1
			switch b {
			case '1':
				r.mask, r.match = r.mask|1, r.match|1
			case '0':
				r.mask |= 1
			}
		}
		out = append(out, r)
	}
	if len(out)+1 != api.Ops {
		t.Fatalf("%d lines", len(out))
	}
	return out
}

// part: the number whose bits stand where the row has that letter.
func (r row) part(w uint32, letter byte) int {
	n := 0
	for k := range 32 {
		if r.bits[k] == letter {
			n = n*2 + int(w>>(31-k)&1)
		}
	}
	return n
}

func (r row) has(letter string) bool { return strings.Contains(r.bits, letter) }

func (r row) inst(w uint32) api.Inst {
	i := api.Inst{Op: r.op, Rd: r.part(w, 'd'), Rs1: r.part(w, 's'), Rs2: r.part(w, 't'), Imm: int64(r.part(w, 'a'))}
	if r.has("i") {
		i.Imm = imm.Get(r.form, w)
	}
	return i
}

// listed: what the listing says of w.
func listed(rs []row, w uint32) (api.Inst, bool) {
	for _, r := range rs {
		if w&r.mask == r.match {
			return r.inst(w), true
		}
	}
	return api.Inst{}, false
}

func holdWord(t *testing.T, rs []row, w uint32) {
	t.Helper()
	want, known := listed(rs, w)
	got, ok := Decode(w)
	if got != want || ok != known {
		t.Fatalf("P4.1: Decode(%#x): %v, %v; wanted %v, %v", w, got, ok, want, known)
	}
	if !ok {
		return
	}
	back, good := Encode(got)
	if got.Op == api.FENCE {
		w = 0xf
	}
	if !good || back != w {
		t.Fatalf("P4.2: Encode(%v): %#x, %v; wanted %#x", got, back, good, w)
	}
}

// TestEachCode: P4.1: all opcodes, funct3, funct7 there are, with operands of 0, of ones, and others.
func TestEachCode(t *testing.T) {
	rs := rows(t)
	for _, operands := range []uint32{0, 0x1ff8f80, 0x0aa5500, 0x1550a80} {
		operands &= 0x1ff8f80
		for code := range uint32(128) {
			for funct3 := range uint32(8) {
				for upper := range uint32(128) {
					holdWord(t, rs, upper<<25|funct3<<12|code|operands)
				}
			}
		}
	}
}

// TestAnyWord: P4.1: words of all kinds, among them each operation's with any operands, and with one bit turned.
func TestAnyWord(t *testing.T) {
	rs := rows(t)
	rnd := rand.New(rand.NewSource(4))
	for range 100000 {
		holdWord(t, rs, rnd.Uint32())
		r := rs[rnd.Intn(len(rs))]
		w := rnd.Uint32()&^r.mask | r.match
		holdWord(t, rs, w)
		holdWord(t, rs, w^1<<rnd.Intn(32))
	}
}

// TestDecodeEdges: P4.1: the words that the chapter names, and those one step beside them.
func TestDecodeEdges(t *testing.T) {
	for w, want := range map[uint32]api.Inst{
		0x00000013: {Op: api.ADDI},
		0x03f0d093: {Op: api.SRLI, Rd: 1, Rs1: 1, Imm: 63},
		0x40105013: {Op: api.SRAI, Imm: 1},
		0x01f0d09b: {Op: api.SRLIW, Rd: 1, Rs1: 1, Imm: 31},
		0x4000501b: {Op: api.SRAIW},
		0xfffff0b7: {Op: api.LUI, Rd: 1, Imm: -1},
		0x7ffff017: {Op: api.AUIPC, Imm: 0x7ffff},
		0xffff8f8f: {Op: api.FENCE},
		0x0ff0000f: {Op: api.FENCE},
		0x00000073: {Op: api.ECALL},
		0x00100073: {Op: api.EBREAK},
	} {
		if got, ok := Decode(w); got != want || !ok {
			t.Errorf("P4.1: Decode(%#x): %v, %v; wanted %v", w, got, ok, want)
		}
	}
	for _, w := range []uint32{
		0x04001013, 0x44005013, 0x80005013, 0x40001013, // bits above how far
		0x0200101b, 0x0200501b, 0x4200501b, 0x4000101b, // of the W ones a bit fewer
		0x0000100f, 0x0000700f, // beside FENCE
		0x000000f3, 0x00008073, 0x00200073, 0x00108073, 0x001000f3, 0x80000073, 0x00001073, 0x00101073, // beside ECALL, EBREAK
		0x40001033, 0x40004033, 0x0200103b, 0x0000203b, 0x04000033, // no such funct7, funct3
		0x00007003, 0x00004023, 0x00002063, 0x00001067, // no such funct3
		0x0000001f, 0x00000033 &^ 1, 0x00000033 &^ 2, 0x00000037 ^ 0x40, 0, math.MaxUint32, // no such opcode
	} {
		if got, ok := Decode(w); got != (api.Inst{}) || ok {
			t.Errorf("P4.1: Decode(%#x): %v, %v; wanted none", w, got, ok)
		}
	}
}

// TestFormNameFind: P4.2.
func TestFormNameFind(t *testing.T) {
	for _, r := range rows(t) {
		if got := Form(r.op); got != r.form {
			t.Errorf("P4.2: Form of %s: %d, wanted %d", r.name, got, r.form)
		}
		if got := Name(r.op); got != r.name {
			t.Errorf("P4.2: Name(%d): %q, wanted %q", r.op, got, r.name)
		}
		if got, ok := Find(r.name); got != r.op || !ok {
			t.Errorf("P4.2: Find(%q): %d, %v, wanted %d", r.name, got, ok, r.op)
		}
	}
	for _, op := range []int{0, -1, api.Ops, api.Ops + 1, math.MinInt, math.MaxInt} {
		if Form(op) != api.FormN || Name(op) != "" {
			t.Errorf("P4.2: op %d: form %d, name %q", op, Form(op), Name(op))
		}
	}
	for _, name := range []string{"", "ADD", "Add", "add ", " add", "ad", "addd", "nop", "mulhs", "lui\x00"} {
		if got, ok := Find(name); got != 0 || ok {
			t.Errorf("P4.2: Find(%q): %d, %v, wanted none", name, got, ok)
		}
	}
}

// bounds: the least and the greatest immediate of the row's operation, and the step between two.
func (r row) bounds() (least, most, step int64) {
	switch {
	case r.has("a"):
		return 0, 1<<strings.Count(r.bits, "a") - 1, 1
	case r.form == api.FormI || r.form == api.FormS:
		return -2048, 2047, 1
	case r.form == api.FormB:
		return -4096, 4094, 2
	case r.form == api.FormU:
		return -524288, 524287, 1
	case r.form == api.FormJ:
		return -1048576, 1048574, 2
	}
	return 0, 0, 1
}

// TestImmediates: P4.2, P4.3: each operation's immediates at their bounds and one past them.
func TestImmediates(t *testing.T) {
	for _, r := range rows(t) {
		if r.form == api.FormN {
			continue
		}
		least, most, step := r.bounds()
		for _, v := range []int64{least, most, 0, most / 2 &^ 1} {
			i := api.Inst{Op: r.op, Imm: v}
			w, ok := Encode(i)
			if !ok || w&r.mask != r.match || r.inst(w) != i {
				t.Errorf("P4.2: %s with %d: %#x, %v", r.name, v, w, ok)
			}
			if back, good := Decode(w); back != i || !good {
				t.Errorf("P4.3: %s with %d: %v, %v", r.name, v, back, good)
			}
		}
		wrong := []int64{least - 1, most + 1, least - step, most + step, math.MinInt64, math.MaxInt64, 1 << 32, 1 << 63 >> 31}
		if step == 2 {
			wrong = append(wrong, 1, -1, least+1, most-1)
		}
		for _, v := range wrong {
			if w, ok := Encode(api.Inst{Op: r.op, Imm: v}); w != 0 || ok {
				t.Errorf("P4.2: %s with %d: %#x, %v; wanted none", r.name, v, w, ok)
			}
		}
	}
}

// TestRegisters: P4.2, P4.3: each register of each operation, those that it hasn't, and what is no register.
func TestRegisters(t *testing.T) {
	for _, r := range rows(t) {
		for _, letter := range []string{"d", "s", "t"} {
			for n := range 32 {
				i := with(api.Inst{Op: r.op}, letter, n)
				want := i
				if !r.has(letter) {
					want = api.Inst{Op: r.op}
				}
				w, ok := Encode(i)
				if !ok || r.form != api.FormN && r.inst(w) != want {
					t.Errorf("P4.2: %v: %#x, %v", i, w, ok)
				}
				if back, good := Decode(w); back != want || !good {
					t.Errorf("P4.3: %v: %v, %v", i, back, good)
				}
			}
			for _, n := range []int{-1, 32, 33, 64, math.MinInt, math.MaxInt, 1 << 32} {
				w, ok := Encode(with(api.Inst{Op: r.op}, letter, n))
				want := r.match
				if r.has(letter) {
					want = 0
				}
				if w != want || ok == r.has(letter) {
					t.Errorf("P4.2: %s with register %d at %s: %#x, %v", r.name, n, letter, w, ok)
				}
			}
		}
	}
}

func with(i api.Inst, letter string, n int) api.Inst {
	switch letter {
	case "d":
		i.Rd = n
	case "s":
		i.Rs1 = n
	case "t":
		i.Rs2 = n
	}
	return i
}

// TestNoOperands: P4.2: FENCE, ECALL, EBREAK ask for no field; what is no operation has no word.
func TestNoOperands(t *testing.T) {
	for op, want := range map[int]uint32{api.FENCE: 0xf, api.ECALL: 0x73, api.EBREAK: 0x100073} {
		for _, i := range []api.Inst{{Op: op}, {Op: op, Rd: 99, Rs1: -1, Rs2: 32, Imm: math.MinInt64}, {Op: op, Rd: 1, Rs1: 2, Rs2: 3, Imm: 4}} {
			if w, ok := Encode(i); w != want || !ok {
				t.Errorf("P4.2: %v: %#x, %v; wanted %#x", i, w, ok, want)
			}
		}
	}
	for _, op := range []int{0, -1, api.Ops, api.Ops + 1, math.MinInt, math.MaxInt, 1<<32 + api.ADD} {
		if w, ok := Encode(api.Inst{Op: op}); w != 0 || ok {
			t.Errorf("P4.2: op %d: %#x, %v; wanted none", op, w, ok)
		}
	}
}

// TestThereAndBack: P4.3: instructions with any operands come back as they were.
func TestThereAndBack(t *testing.T) {
	rnd := rand.New(rand.NewSource(43))
	rs := rows(t)
	for range 50000 {
		r := rs[rnd.Intn(len(rs))]
		least, most, step := r.bounds()
		i := api.Inst{Op: r.op, Imm: least + step*rnd.Int63n((most-least)/step+1)}
		for _, letter := range []string{"d", "s", "t"} {
			if r.has(letter) {
				i = with(i, letter, rnd.Intn(32))
			}
		}
		w, ok := Encode(i)
		if back, good := Decode(w); !ok || !good || back != i {
			t.Fatalf("P4.3: %v: %#x, %v; %v, %v", i, w, ok, back, good)
		}
	}
}
