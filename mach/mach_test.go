package mach

import (
	"bytes"
	"fmt"
	"math"
	"math/big"
	"math/rand"
	"slices"
	"testing"

	"dovetail/api"
	"dovetail/asm"
	"dovetail/env"
	"dovetail/inst"
	"dovetail/le"
	"dovetail/mem"
)

// Where made lays pages: code, two of data, one that may be read alone, one that may be written alone.
const (
	code  = 0x10000
	data  = 0x20000
	fixed = 0x22000
	blind = 0x40000
)

var running = api.Status{}

func trapped(kind int) api.Status {
	return api.Status{Kind: api.Trapped, Trap: kind}
}

// made: a machine at code, where the text's program stands; data begins with "hello", fixed with "const".
func made(t *testing.T, text, input string) *Mach {
	t.Helper()
	words, line := asm.Lines(text)
	if line != 0 {
		t.Fatalf("line %d of %q", line, text)
	}
	return loaded(t, words, input)
}

func loaded(t *testing.T, words []uint32, input string) *Mach {
	t.Helper()
	m := mem.New()
	for _, p := range []struct {
		addr, size uint64
		perm       int
		b          []byte
	}{
		{code, api.Page, api.PermR | api.PermX, le.Put32(nil, words...)},
		{data, 2 * api.Page, api.PermR | api.PermW, []byte("hello")},
		{fixed, api.Page, api.PermR, []byte("const")},
		{blind, api.Page, api.PermW, []byte("blind")},
	} {
		if e := m.Map(p.addr, p.size, p.perm, p.b); e != api.OK {
			t.Fatal(e)
		}
	}
	return New(m, env.New([]byte(input)), code)
}

// set: gives registers, by pairs of a number and a value.
func (x *Mach) set(pairs ...uint64) *Mach {
	for k := 0; k < len(pairs); k += 2 {
		x.Set(int(pairs[k]), pairs[k+1])
	}
	return x
}

// seen: all that a machine shows, and what it has in its pages.
func seen(x *Mach) string {
	s := fmt.Sprintf("%v %#x", x.Status(), x.PC())
	for i := range 32 {
		s += fmt.Sprintf(" %#x", x.Reg(i))
	}
	b, _ := x.mem.Read(data, 2*api.Page)
	c, _ := x.mem.Read(fixed, api.Page)
	return fmt.Sprintf("%s %q %q %v %d", s, bytes.TrimRight(b, "\x00"), bytes.TrimRight(c, "\x00"), x.env.Trace(), x.env.Left())
}

// TestNew: P8.1: all registers 0, PC the entry, running.
func TestNew(t *testing.T) {
	for _, entry := range []uint64{0, 1, 4, code, 1 << 47, 1 << 63, math.MaxUint64} {
		x := New(mem.New(), env.New(nil), entry)
		if x.PC() != entry || x.Status() != running {
			t.Errorf("P8.1: New at %#x: %#x, %v", entry, x.PC(), x.Status())
		}
		for i := -1; i < 40; i++ {
			if x.Reg(i) != 0 {
				t.Errorf("P8.1: New: register %d is %d", i, x.Reg(i))
			}
		}
	}
}

// TestNothingGiven: DOC 1: not even a machine without memory and input panics.
func TestNothingGiven(t *testing.T) {
	if s := New(nil, nil, 8).Run(3); s != trapped(api.TrapFetch) {
		t.Errorf("P8.1: no memory: %v", s)
	}
	x := made(t, "ecall\necall", "")
	x = New(x.mem, nil, code).set(17, 63, 11, data, 12, 5)
	if s := x.Run(2); s != running || x.Reg(10) != 0 {
		t.Errorf("P8.2: no input: %v", s)
	}
}

// TestRegisters: P8.1: 1 to 31 take what they are given; 0 and others stay 0.
func TestRegisters(t *testing.T) {
	x := New(mem.New(), env.New(nil), 0)
	for i := 1; i < 32; i++ {
		x.Set(i, uint64(i)<<60|uint64(i))
	}
	for _, i := range []int{0, -1, 32, 33, 64, -31, 1 << 32, 1<<32 + 1, math.MinInt, math.MaxInt, -1<<63 + 5} {
		x.Set(i, 7)
		if x.Reg(i) != 0 {
			t.Errorf("P8.1: Reg(%d): %d", i, x.Reg(i))
		}
	}
	for i := 1; i < 32; i++ {
		if x.Reg(i) != uint64(i)<<60|uint64(i) {
			t.Errorf("P8.1: Reg(%d): %#x", i, x.Reg(i))
		}
	}
	x.Set(31, 0)
	x.Set(1, math.MaxUint64)
	if x.Reg(31) != 0 || x.Reg(1) != math.MaxUint64 || x.PC() != 0 || x.Status() != running {
		t.Errorf("P8.1: Set again: %#x, %#x", x.Reg(31), x.Reg(1))
	}
}

// signed, unsigned: a number's lowest n bits, as the manual speaks of them.
func unsigned(v uint64, n uint) *big.Int {
	one := big.NewInt(1)
	mask := new(big.Int).Sub(new(big.Int).Lsh(one, n), one)
	return mask.And(mask, new(big.Int).SetUint64(v))
}

func signed(v uint64, n uint) *big.Int {
	out := unsigned(v, n)
	if out.Bit(int(n-1)) == 1 {
		out.Sub(out, new(big.Int).Lsh(big.NewInt(1), n))
	}
	return out
}

// wrapped: v's lowest n bits, with their sign.
func wrapped(v *big.Int, n uint) uint64 {
	mod := new(big.Int).Lsh(big.NewInt(1), n)
	low := new(big.Int).Mod(v, mod)
	return uint64(signed(low.Uint64(), n).Int64())
}

// bitwise: v with each bit that f tells.
func bitwise(a, b uint64, f func(p, q bool) bool) *big.Int {
	out := new(big.Int)
	for k := range 64 {
		if f(a>>k&1 == 1, b>>k&1 == 1) {
			out.SetBit(out, k, 1)
		}
	}
	return out
}

func oneIf(ok bool) *big.Int {
	if ok {
		return big.NewInt(1)
	}
	return new(big.Int)
}

// divided: quotient and rest, towards 0, of any sign; b 0: all ones, a.
func divided(a, b *big.Int) (*big.Int, *big.Int) {
	if b.Sign() == 0 {
		return big.NewInt(-1), a
	}
	return new(big.Int).QuoRem(a, b, new(big.Int))
}

// manual: what the manual says of an operation, by numbers without bounds; false of what is none of these.
func manual(op int, a, b uint64) (uint64, bool) {
	n := uint(64)
	switch op {
	case api.ADDIW, api.SLLIW, api.SRLIW, api.SRAIW, api.ADDW, api.SUBW, api.SLLW, api.SRLW, api.SRAW, api.MULW, api.DIVW, api.DIVUW, api.REMW, api.REMUW:
		n = 32
	}
	x, y, ux, uy := signed(a, n), signed(b, n), unsigned(a, n), unsigned(b, n)
	far := uint(b % uint64(n))
	v := new(big.Int)
	switch op {
	case api.ADDI, api.ADD, api.ADDIW, api.ADDW:
		v.Add(x, y)
	case api.SUB, api.SUBW:
		v.Sub(x, y)
	case api.SLTI, api.SLT:
		v = oneIf(x.Cmp(y) < 0)
	case api.SLTIU, api.SLTU:
		v = oneIf(ux.Cmp(uy) < 0)
	case api.XORI, api.XOR:
		v = bitwise(a, b, func(p, q bool) bool { return p != q })
	case api.ORI, api.OR:
		v = bitwise(a, b, func(p, q bool) bool { return p || q })
	case api.ANDI, api.AND:
		v = bitwise(a, b, func(p, q bool) bool { return p && q })
	case api.SLLI, api.SLL, api.SLLIW, api.SLLW:
		v.Lsh(ux, far)
	case api.SRLI, api.SRL, api.SRLIW, api.SRLW:
		v.Rsh(ux, far)
	case api.SRAI, api.SRA, api.SRAIW, api.SRAW:
		v.Rsh(x, far)
	case api.MUL, api.MULW:
		v.Mul(x, y)
	case api.MULH:
		v.Rsh(v.Mul(x, y), 64)
	case api.MULHSU:
		v.Rsh(v.Mul(x, uy), 64)
	case api.MULHU:
		v.Rsh(v.Mul(ux, uy), 64)
	case api.DIV, api.DIVW:
		v, _ = divided(x, y)
	case api.DIVU, api.DIVUW:
		v, _ = divided(ux, uy)
	case api.REM, api.REMW:
		_, v = divided(x, y)
	case api.REMU, api.REMUW:
		_, v = divided(ux, uy)
	default:
		return 0, false
	}
	return wrapped(v, n), true
}

// ends: numbers at which something changes.
func ends() []uint64 {
	out := []uint64{0, 5, 7, 10, 100, 1<<32 + 5, 0x0123456789abcdef, 0xfedcba9876543210}
	for _, k := range []uint{0, 1, 2, 5, 6, 11, 12, 30, 31, 32, 33, 62, 63} {
		out = append(out, 1<<k, 1<<k-1, 1<<k+1, -(uint64(1) << k), -(uint64(1)<<k)-1)
	}
	return out
}

// TestAlu: P8.3: all operations, at all ends and at any numbers.
func TestAlu(t *testing.T) {
	r := rand.New(rand.NewSource(8))
	try := func(op int, a, b uint64) {
		want, _ := manual(op, a, b)
		if got := Alu(op, a, b); got != want {
			t.Fatalf("P8.3: %s of %#x, %#x: %#x, wanted %#x", inst.Name(op), a, b, got, want)
		}
	}
	for op := api.ADDI; op <= api.REMUW; op++ {
		if _, ok := manual(op, 1, 1); !ok {
			t.Fatalf("%s isn't tested", inst.Name(op))
		}
		for _, a := range ends() {
			for _, b := range ends() {
				try(op, a, b)
			}
		}
		for range 200 {
			try(op, r.Uint64(), r.Uint64()>>r.Intn(64))
		}
	}
}

// TestAluPlain: P8.3: what the chapter names, in its own numbers.
func TestAluPlain(t *testing.T) {
	const all, least, leastWord = math.MaxUint64, uint64(1) << 63, uint64(1) << 31
	for _, c := range []struct {
		op         int
		a, b, want uint64
	}{
		{api.DIV, 7, 0, all}, {api.DIVU, 7, 0, all}, {api.REM, 7, 0, 7}, {api.REMU, 7, 0, 7},
		{api.DIV, least, all, least}, {api.REM, least, all, 0}, {api.DIVU, least, all, 0}, {api.REMU, least, all, least},
		{api.DIVW, 7, 0, all}, {api.DIVUW, 7, 0, all}, {api.REMW, 7, 0, 7}, {api.REMUW, 7, 0, 7},
		{api.DIVW, 7, 1 << 32, all}, {api.DIVUW, 7, 1 << 32, all}, {api.REMW, 5<<32 + 7, 1 << 32, 7},
		{api.REMW, 0x80000001, 0, 0xffffffff80000001}, {api.REMUW, 0x80000001, 0, 0xffffffff80000001},
		{api.DIVW, leastWord, 1<<32 - 1, 0xffffffff80000000}, {api.REMW, leastWord, 1<<32 - 1, 0}, {api.DIVW, leastWord, all, 0xffffffff80000000},
		{api.DIV, 7, all - 1, all - 2}, {api.REM, all - 6, 2, all}, {api.REM, 7, all - 1, 1},
		{api.ADDI, 5, all, 4}, {api.ADDIW, 1<<31 - 1, 1, 0xffffffff80000000}, {api.ADDIW, 1 << 40, 0, 0}, {api.SLTIU, 5, all, 1}, {api.SLTI, 5, all, 0},
		{api.SLL, 1, 64, 1}, {api.SLLW, 1, 32, 1}, {api.SLLW, 1, 31, 0xffffffff80000000}, {api.SRLW, all, 1, 1<<31 - 1}, {api.SRAW, 1 << 31, 31, all}, {api.SRLIW, 1 << 31, 0, 0xffffffff80000000},
		{api.MULH, all, all, 0}, {api.MULHU, all, all, all - 1}, {api.MULHSU, all, all, all}, {api.MULHSU, 2, all, 1}, {api.MULHSU, all, 2, all},
	} {
		if got := Alu(c.op, c.a, c.b); got != c.want {
			t.Errorf("P8.3: %s of %#x, %#x: %#x, wanted %#x", inst.Name(c.op), c.a, c.b, got, c.want)
		}
	}
}

// TestAluOthers: P8.3: of what isn't from ADDI to REMUW it is 0.
func TestAluOthers(t *testing.T) {
	ops := []int{0, -1, api.FENCE, api.ECALL, api.EBREAK, api.Ops, api.Ops + 1, 1 << 32, 1<<32 + api.ADD, -api.ADD, math.MinInt, math.MaxInt}
	for op := api.LUI; op < api.ADDI; op++ {
		ops = append(ops, op)
	}
	for _, op := range ops {
		for _, a := range ends() {
			if Alu(op, a, 3) != 0 || Alu(op, 3, a) != 0 {
				t.Errorf("P8.3: operation %d of %#x isn't 0", op, a)
			}
		}
	}
}

// TestOperations: P8.1: each operation from ADDI to REMUW, done by a step: of registers, of the immediate, into the register that is read, into x0.
func TestOperations(t *testing.T) {
	for op := api.ADDI; op <= api.REMUW; op++ {
		for _, c := range []struct {
			rd, rs1, rs2 int
			imm          int64
		}{{1, 2, 3, 9}, {2, 2, 2, 0}, {3, 2, 3, 31}, {0, 2, 3, 1}, {31, 0, 3, 4}, {5, 3, 0, 5}, {6, 31, 30, -1}, {7, 2, 2, -2048}, {8, 3, 2, 2047}} {
			i := api.Inst{Op: op, Rd: c.rd, Rs1: c.rs1, Rs2: c.rs2}
			b := func(x *Mach) uint64 { return x.Reg(c.rs2) }
			if inst.Form(op) == api.FormI {
				i.Rs2, i.Imm = 0, c.imm
				b = func(*Mach) uint64 { return uint64(c.imm) }
			}
			w, ok := inst.Encode(i)
			if !ok {
				continue // a shift that is too far
			}
			x := loaded(t, []uint32{w}, "").set(2, 0xfedcba9876543210, 3, 0x8000000f00000007, 30, 6, 31, 1<<63)
			want, _ := manual(op, x.Reg(c.rs1), b(x))
			if c.rd == 0 {
				want = 0
			}
			if s := x.Step(); s != running || x.Reg(c.rd) != want || x.PC() != code+4 {
				t.Errorf("P8.1: %s: %v, %#x, wanted %#x, PC %#x", asm.Text(i), s, x.Reg(c.rd), want, x.PC())
			}
		}
	}
}

// TestUpper: P8.1: LUI and AUIPC, at their ends.
func TestUpper(t *testing.T) {
	for _, c := range []struct {
		text string
		want uint64
	}{
		{"lui x1, 0", 0}, {"lui x1, 1", 0x1000}, {"lui x1, -1", 0xfffffffffffff000}, {"lui x1, 524287", 0x7ffff000}, {"lui x1, -524288", 0xffffffff80000000}, {"lui x0, 5", 0},
		{"auipc x1, 0", code}, {"auipc x1, 1", code + 0x1000}, {"auipc x1, -1", code - 0x1000}, {"auipc x1, -16", 0}, {"auipc x1, -17", 0xfffffffffffff000}, {"auipc x1, 524287", code + 0x7ffff000}, {"auipc x1, -524288", 0xffffffff80010000}, {"auipc x0, 1", 0},
	} {
		x := made(t, c.text, "")
		if s := x.Step(); s != running || x.Reg(1) != c.want || x.Reg(0) != 0 || x.PC() != code+4 {
			t.Errorf("P8.1: %s: %v, %#x, wanted %#x", c.text, s, x.Reg(1), c.want)
		}
	}
}

// TestJumps: P8.1: where a jump goes, what it leaves behind; targets that are no multiple of 4.
func TestJumps(t *testing.T) {
	for _, c := range []struct {
		text  string
		base  uint64 // x1
		want  api.Status
		pc    uint64
		after uint64 // x1 then
	}{
		{"jal x1, 8", 0, running, code + 8, code + 4}, {"jal x1, 0", 0, running, code, code + 4}, {"jal x1, -8", 0, running, code - 8, code + 4}, {"jal x0, 12", 5, running, code + 12, 5},
		{"jal x1, 1048572", 0, running, code + 1048572, code + 4}, {"jal x1, -1048576", 0, running, 1<<64 + code - 1048576, code + 4}, {"jal x1, -65540", 0, running, 1<<64 - 4, code + 4},
		{"jal x1, 2", 9, trapped(api.TrapAlign), code, 9}, {"jal x1, 6", 9, trapped(api.TrapAlign), code, 9}, {"jal x1, -2", 9, trapped(api.TrapAlign), code, 9}, {"jal x0, 1048574", 9, trapped(api.TrapAlign), code, 9},
		{"jalr x1, 0(x1)", data, running, data, code + 4}, {"jalr x1, 1(x1)", data, running, data, code + 4}, {"jalr x1, 0(x1)", data + 1, running, data, code + 4}, {"jalr x1, 1(x1)", data + 3, running, data + 4, code + 4},
		{"jalr x0, 4(x1)", data, running, data + 4, data}, {"jalr x1, -4(x1)", 0, running, 1<<64 - 4, code + 4}, {"jalr x1, 5(x1)", math.MaxUint64, running, 4, code + 4}, {"jalr x1, 1(x1)", math.MaxUint64, running, 0, code + 4}, {"jalr x1, -2048(x0)", 5, running, 1<<64 - 2048, code + 4},
		{"jalr x1, 2(x1)", data, trapped(api.TrapAlign), code, data}, {"jalr x1, 3(x1)", data, trapped(api.TrapAlign), code, data}, {"jalr x1, -1(x1)", data, trapped(api.TrapAlign), code, data}, {"jalr x1, 1(x1)", data + 1, trapped(api.TrapAlign), code, data + 1}, {"jalr x0, 0(x1)", math.MaxUint64, trapped(api.TrapAlign), code, math.MaxUint64},
	} {
		x := made(t, c.text, "").set(1, c.base)
		if s := x.Step(); s != c.want || x.PC() != c.pc || x.Reg(1) != c.after || x.Reg(0) != 0 {
			t.Errorf("P8.1: %s, x1 %#x: %v, PC %#x, x1 %#x; wanted %v, %#x, %#x", c.text, c.base, s, x.PC(), x.Reg(1), c.want, c.pc, c.after)
		}
	}
}

// TestBranches: P8.1: all branches at all pairs of ends; those that are taken to a wrong place trap, the others go on.
func TestBranches(t *testing.T) {
	for op := api.BEQ; op <= api.BGEU; op++ {
		for _, a := range ends() {
			for _, b := range []uint64{0, 1, a, a - 1, a + 1, math.MaxUint64, 1 << 63, 1<<63 - 1, ^a} {
				c, u := signed(a, 64).Cmp(signed(b, 64)), unsigned(a, 64).Cmp(unsigned(b, 64))
				goes := map[int]bool{api.BEQ: c == 0, api.BNE: c != 0, api.BLT: c < 0, api.BGE: c >= 0, api.BLTU: u < 0, api.BGEU: u >= 0}[op]
				holdBranch(t, op, a, b, goes)
			}
		}
	}
}

func holdBranch(t *testing.T, op int, a, b uint64, goes bool) {
	t.Helper()
	for _, far := range []int64{8, -8, 0, 4094, -4096, 2, -2} {
		w, ok := inst.Encode(api.Inst{Op: op, Rs1: 3, Rs2: 4, Imm: far})
		if !ok {
			t.Fatal(far)
		}
		m := mem.New()
		m.Map(code, api.Page, api.PermX, le.Put32(nil, w))
		x := New(m, env.New(nil), code).set(3, a, 4, b)
		want, pc := running, uint64(code+4)
		if goes && far%4 != 0 {
			want, pc = trapped(api.TrapAlign), code
		} else if goes {
			pc = code + uint64(far)
		}
		if s := x.Step(); s != want || x.PC() != pc || x.Reg(3) != a || x.Reg(4) != b {
			t.Fatalf("P8.1: %s by %d of %#x, %#x: %v, PC %#x; wanted %v, %#x", inst.Name(op), far, a, b, s, x.PC(), want, pc)
		}
	}
}

// TestLoads: P8.1: how many bytes, whether with their sign, at any address, also over a page's end.
func TestLoads(t *testing.T) {
	b := []byte{0x80, 0xff, 0x7f, 0x01, 0x85, 0x86, 0x87, 0x88, 0xf9, 0x7a}
	for _, c := range []struct {
		op, n int
		sign  bool
	}{{api.LB, 1, true}, {api.LH, 2, true}, {api.LW, 4, true}, {api.LD, 8, true}, {api.LBU, 1, false}, {api.LHU, 2, false}, {api.LWU, 4, false}} {
		for _, at := range []uint64{data, data + 1, data + 3, data + api.Page - 1, data + api.Page - 3, data + api.Page - 5} {
			for k := range 3 {
				w, _ := inst.Encode(api.Inst{Op: c.op, Rd: 7, Rs1: 7, Imm: int64(k) - 1})
				x := loaded(t, []uint32{w}, "").set(7, at+1)
				x.mem.Write(at, b)
				v := uint64(0)
				for j := range c.n {
					v |= uint64(b[k+j]) << (8 * j)
				}
				if c.sign {
					v = wrapped(new(big.Int).SetUint64(v), uint(8*c.n))
				}
				if s := x.Step(); s != running || x.Reg(7) != v || x.PC() != code+4 {
					t.Errorf("P8.1: %s at %#x: %v, %#x, wanted %#x", inst.Name(c.op), at+uint64(k), s, x.Reg(7), v)
				}
			}
		}
	}
}

// TestStores: P8.1: the lowest bytes are there then, no others.
func TestStores(t *testing.T) {
	for op, n := range map[int]int{api.SB: 1, api.SH: 2, api.SW: 4, api.SD: 8} {
		for _, at := range []uint64{data, data + 1, data + 5, data + api.Page - 1, data + api.Page - 7, data + 2*api.Page - 8 - 2, blind + 9} {
			for far := int64(-2); far < 3; far++ {
				w, _ := inst.Encode(api.Inst{Op: op, Rs1: 7, Rs2: 8, Imm: far})
				x := loaded(t, []uint32{w}, "").set(7, at-uint64(far), 8, 0x8897a6b5c4d3e2f1)
				want := make([]byte, 2*api.Page)
				copy(want, "hello")
				for j := range n {
					if at < blind {
						want[at-data+uint64(j)] = byte(x.Reg(8) >> (8 * j))
					}
				}
				s := x.Step()
				if b, _ := x.mem.Read(data, 2*api.Page); s != running || !bytes.Equal(b, want) || x.PC() != code+4 || x.Reg(8) != 0x8897a6b5c4d3e2f1 {
					t.Errorf("P8.1: %s at %#x: %v", inst.Name(op), at, s)
				}
			}
		}
	}
}

// TestTraps: P8.1: what leads to which trap; registers, PC, memory and events are as they were, and nothing is done any more.
func TestTraps(t *testing.T) {
	const last = fixed + api.Page // no page is there
	for _, c := range []struct {
		text string
		x7   uint64
		want int
	}{
		{"ebreak", 0, api.TrapBreak},
		{"lb x7, 0(x7)", 0, api.TrapLoad}, {"lbu x0, 0(x7)", 0, api.TrapLoad}, {"lh x7, -1(x7)", last, api.TrapLoad}, {"lhu x7, -1(x7)", last, api.TrapLoad}, {"lw x7, -3(x7)", last, api.TrapLoad}, {"lwu x7, -1(x7)", last, api.TrapLoad}, {"ld x7, -7(x7)", last, api.TrapLoad}, {"ld x7, 0(x7)", math.MaxUint64 - 6, api.TrapLoad}, {"lb x7, -1(x7)", 0, api.TrapLoad}, {"lw x7, 0(x7)", math.MaxUint64, api.TrapLoad}, {"lb x7, 0(x7)", blind, api.TrapLoad}, {"ld x7, 0(x7)", 1<<47 - 4, api.TrapLoad},
		{"sb x7, 0(x7)", 0, api.TrapStore}, {"sb x7, 0(x7)", fixed, api.TrapStore}, {"sb x7, 0(x7)", code, api.TrapStore}, {"sh x7, -1(x7)", fixed, api.TrapStore}, {"sw x7, -1(x7)", fixed, api.TrapStore}, {"sd x7, -7(x7)", fixed, api.TrapStore}, {"sd x7, -1(x7)", data, api.TrapStore}, {"sd x7, 0(x7)", math.MaxUint64 - 3, api.TrapStore}, {"sw x7, 0(x0)", 5, api.TrapStore},
		{"jal x7, 2", 5, api.TrapAlign}, {"jalr x7, 2(x0)", 5, api.TrapAlign}, {"beq x0, x0, 2", 5, api.TrapAlign},
	} {
		x := made(t, c.text, "in").set(7, c.x7, 17, 93, 10, 5)
		x.env.Note(api.Event{Fd: 1, B: []byte("before")})
		x.status = trapped(c.want)
		want := seen(x)
		x.status = running
		if s := x.Step(); s != trapped(c.want) || seen(x) != want {
			t.Errorf("P8.1: %s, x7 %#x: %v; %s, wanted %s", c.text, c.x7, s, seen(x), want)
		}
		if s := x.Step(); s != trapped(c.want) || x.Run(5) != s || seen(x) != want {
			t.Errorf("P8.1: %s: goes on: %s", c.text, seen(x))
		}
	}
}

// TestEnded: P8.1: a run that has ended stays so, even where its instruction could go on by now.
func TestEnded(t *testing.T) {
	for _, text := range []string{"ecall", "lb x1, 0(x7)", "sb x17, 0(x7)", "jalr x1, 2(x7)"} {
		x := made(t, text, "in").set(17, 93)
		end := x.Step()
		x.set(17, 64, 7, data+2)
		want := seen(x)
		if s := x.Step(); end == running || s != end || x.Run(3) != end || seen(x) != want {
			t.Errorf("P8.1: %s: %v, then %s", text, end, seen(x))
		}
	}
}

// TestFetch: P8.1: traps of PC itself, the alignment's first; words that are no instruction.
func TestFetch(t *testing.T) {
	for _, c := range []struct {
		pc   uint64
		want int
	}{
		{code + 1, api.TrapAlign}, {code + 2, api.TrapAlign}, {code + 3, api.TrapAlign}, {1, api.TrapAlign}, {data + 2, api.TrapAlign}, {math.MaxUint64, api.TrapAlign}, {1<<63 + 2, api.TrapAlign},
		{0, api.TrapFetch}, {4, api.TrapFetch}, {data, api.TrapFetch}, {fixed, api.TrapFetch}, {blind, api.TrapFetch}, {code + api.Page, api.TrapFetch}, {code - 4, api.TrapFetch}, {1<<64 - 4, api.TrapFetch}, {1 << 47, api.TrapFetch}, {1<<47 - 4, api.TrapFetch}, {1<<32 + code, api.TrapFetch},
		{code + 8, api.TrapIllegal}, {code + api.Page - 4, api.TrapIllegal},
	} {
		y := made(t, "ebreak", "")
		x := New(y.mem, y.env, c.pc).set(1, 5)
		if s := x.Step(); s != trapped(c.want) || x.Status() != s || x.PC() != c.pc || x.Reg(1) != 5 {
			t.Errorf("P8.1: PC %#x: %v, wanted %v", c.pc, s, trapped(c.want))
		}
	}
	for _, w := range []uint32{0, 0xffffffff, 0x13 ^ 1, 0x173, 0x73 | 1<<20 | 1<<7, 0x1000 | 0x0f, 0x02000013 | 1<<12 | 1<<26} {
		x := loaded(t, []uint32{w, 0x13}, "")
		if s := x.Run(5); s != trapped(api.TrapIllegal) || x.PC() != code {
			t.Errorf("P8.1: word %#x: %v", w, s)
		}
	}
}

// TestPageEnd: P8.1: the last word of what may be run is run; what follows isn't there.
func TestPageEnd(t *testing.T) {
	m := mem.New()
	m.Map(code, api.Page, api.PermX, append(make([]byte, api.Page-4), 0x13, 0, 0, 0))
	x := New(m, env.New(nil), code+api.Page-4)
	if x.Step() != running || x.PC() != code+api.Page || x.Step() != trapped(api.TrapFetch) || x.PC() != code+api.Page {
		t.Errorf("P8.1: %v, PC %#x", x.Status(), x.PC())
	}
}

// TestFence: P8.1: it does nothing, whatever its other bits are.
func TestFence(t *testing.T) {
	for _, w := range []uint32{0xf, 0x0ff0000f, 0xffff8f8f} {
		x := loaded(t, []uint32{w}, "in").set(1, 5, 31, 7, 17, 93)
		x.pc += 4
		want := seen(x)
		x.pc -= 4
		if x.Step(); seen(x) != want {
			t.Errorf("P8.1: fence %#x: %s", w, seen(x))
		}
	}
}

// TestRun: P8.1: how many steps it does.
func TestRun(t *testing.T) {
	for _, c := range []struct {
		n    int
		want uint64
	}{{0, 0}, {-1, 0}, {math.MinInt, 0}, {1, 1}, {2, 2}, {1000, 1000}, {api.MaxFuel - 1, api.MaxFuel - 1}, {api.MaxFuel, api.MaxFuel}, {api.MaxFuel + 1, api.MaxFuel}, {1 << 32, api.MaxFuel}, {math.MaxInt, api.MaxFuel}} {
		x := made(t, "addi x1, x1, 1\naddi x2, x2, 1\njal x0, -8", "")
		if s := x.Run(c.n); s != running || x.PC() != code+c.want%3*4 || x.Reg(1) != (c.want+2)/3 || x.Reg(2) != (c.want+1)/3 {
			t.Errorf("P8.1: Run(%d): %v, x1 %d, PC %#x", c.n, s, x.Reg(1), x.PC())
		}
	}
	for n, want := range []api.Status{running, running, running, trapped(api.TrapBreak), trapped(api.TrapBreak)} {
		x := made(t, "addi x1, x1, 1\naddi x1, x1, 1\nebreak", "")
		if s := x.Run(n); s != want || x.Status() != want || x.Reg(1) != uint64(min(n, 2)) {
			t.Errorf("P8.1: Run(%d) to a break: %v, x1 %d", n, s, x.Reg(1))
		}
	}
	x := made(t, "addi x1, x1, 1\naddi x1, x1, 1\necall", "").set(17, 93)
	if x.Run(1) != running || x.Run(1) != running || x.Run(1).Kind != api.Exited || x.Reg(1) != 2 {
		t.Errorf("P8.1: Run by ones: %v", x.Status())
	}
}

// TestExit: P8.2: the code is all of x10; PC stays; nothing goes on.
func TestExit(t *testing.T) {
	for _, v := range []int64{0, 1, -1, 255, 256, 1 << 40, math.MinInt64, math.MaxInt64} {
		x := made(t, "ecall\nebreak", "in").set(17, 93, 10, uint64(v), 11, data, 12, 2)
		want := api.Status{Kind: api.Exited, Code: v}
		x.status = want
		shown := seen(x)
		x.status = running
		if s := x.Step(); s != want || seen(x) != shown || x.PC() != code {
			t.Errorf("P8.2: exit of %d: %v, %s", v, s, seen(x))
		}
		if x.Step() != want || x.Run(9) != want || seen(x) != shown {
			t.Errorf("P8.2: exit of %d goes on: %s", v, seen(x))
		}
	}
}

// TestOtherCalls: P8.2: x10 is -38, nothing else; a call's number is all of x17.
func TestOtherCalls(t *testing.T) {
	for _, n := range []uint64{0, 1, 62, 65, 92, 94, 29, 1<<32 + 93, 1<<32 + 64, 1<<32 + 63, 1<<63 + 93, math.MaxUint64} {
		x := made(t, "ecall", "in").set(17, n, 10, 1, 11, data, 12, 2)
		x.set(10, -38&math.MaxUint64)
		x.pc += 4
		want := seen(x)
		x.set(10, 1)
		x.pc -= 4
		if s := x.Step(); s != running || seen(x) != want {
			t.Errorf("P8.2: call %#x: %s, wanted %s", n, seen(x), want)
		}
	}
}

// TestWrite: P8.2: the file, the bytes, the length; what is too long, what may not be read.
func TestWrite(t *testing.T) {
	const tail = fixed + api.Page - data // how many may be read from data on
	for _, c := range []struct {
		fd      int64
		addr, n uint64
		answer  int64
	}{
		{1, data, 5, 5}, {2, data + 1, 3, 3}, {-1, fixed, 5, 5}, {math.MinInt64, fixed, 1, 1}, {math.MaxInt64, code, 4, 4}, {1, data + api.Page - 2, 9, 9}, {1, data, tail, tail}, {1, data + tail - 1, 1, 1},
		{1, 0, 0, 0}, {1, math.MaxUint64, 0, 0}, {1, blind, 0, 0}, {1, data, 0, 0},
		{1, data, tail + 1, -14}, {1, data + tail, 1, -14}, {1, 0, 1, -14}, {1, blind, 1, -14}, {1, data - 1, 2, -14}, {1, math.MaxUint64, 1, -14}, {1, math.MaxUint64, 2, -14}, {1, 1 << 47, 1, -14}, {1, data, api.MaxIO, -14}, {1, 0, api.MaxIO, -14},
		{1, data, api.MaxIO + 1, -22}, {1, 0, api.MaxIO + 1, -22}, {1, data, 1 << 32, -22}, {1, data, 1<<32 + 1, -22}, {1, data, 1 << 63, -22}, {1, data, math.MaxUint64, -22},
	} {
		x := made(t, "ecall", "in").set(17, 64, 10, uint64(c.fd), 11, c.addr, 12, c.n)
		var events []api.Event
		if c.answer >= 0 {
			b, _ := x.mem.Read(c.addr, c.n)
			events = []api.Event{{Kind: api.EventWrite, Fd: c.fd, B: b}}
		}
		s := x.Step()
		if s != running || int64(x.Reg(10)) != c.answer || x.PC() != code+4 || !sameEvents(x.env.Trace(), events) || x.env.Left() != 2 {
			t.Errorf("P8.2: write %d, %#x, %#x: %v, %d, %v", c.fd, c.addr, c.n, s, int64(x.Reg(10)), x.env.Trace())
		}
		if x.Reg(11) != c.addr || x.Reg(12) != c.n || x.Reg(17) != 64 {
			t.Errorf("P8.2: write %d, %#x, %#x: registers", c.fd, c.addr, c.n)
		}
	}
}

func sameEvents(a, b []api.Event) bool {
	return slices.EqualFunc(a, b, func(x, y api.Event) bool {
		return x.Kind == y.Kind && x.Fd == y.Fd && x.N == y.N && bytes.Equal(x.B, y.B)
	})
}

// TestGreatWrite, TestGreatRead: P8.2: MaxIO bytes go, in one call.
func TestGreatWrite(t *testing.T) {
	x := made(t, "ecall\necall", "").set(17, 64, 10, 1, 11, 0x100000, 12, api.MaxIO)
	b := bytes.Repeat([]byte("0123456"), api.MaxIO/7+1)[:api.MaxIO]
	x.mem.Map(0x100000, api.MaxIO+1, api.PermR, b)
	if x.Step(); x.Reg(10) != api.MaxIO || !sameEvents(x.env.Trace(), []api.Event{{Fd: 1, B: b}}) {
		t.Errorf("P8.2: write of MaxIO: %d", int64(x.Reg(10)))
	}
	x.set(12, api.MaxIO+1)
	if x.Step(); int64(x.Reg(10)) != -22 || len(x.env.Trace()) != 1 {
		t.Errorf("P8.2: write of one more: %d", int64(x.Reg(10)))
	}
}

func TestGreatRead(t *testing.T) {
	in := bytes.Repeat([]byte("0123456"), api.MaxIO/7+9)
	x := made(t, "ecall\necall", string(in)).set(17, 63, 10, 1, 11, 0x100003, 12, api.MaxIO+1)
	x.mem.Map(0x100000, api.MaxIO+4, api.PermR|api.PermW, nil)
	if x.Step(); int64(x.Reg(10)) != -22 || x.env.Left() != len(in) {
		t.Errorf("P8.2: read of one more: %d", int64(x.Reg(10)))
	}
	x.set(10, 3, 12, api.MaxIO)
	x.Step()
	if b, _ := x.mem.Read(0x100003, api.MaxIO); x.Reg(10) != api.MaxIO || !bytes.Equal(b, in[:api.MaxIO]) || x.env.Left() != len(in)-api.MaxIO || !sameEvents(x.env.Trace(), []api.Event{{Kind: api.EventRead, Fd: 3, N: api.MaxIO}}) {
		t.Errorf("P8.2: read of MaxIO: %d", int64(x.Reg(10)))
	}
}

// TestRead: P8.2: as many as wait; all the room must be there, even if less waits, and none is taken where it isn't.
func TestRead(t *testing.T) {
	const room = 2 * api.Page
	for _, c := range []struct {
		input   string
		fd      int64
		addr, n uint64
		answer  int64
	}{
		{"INPUT", 0, data, 3, 3}, {"INPUT", 7, data + 1, 5, 5}, {"INPUT", -7, data, 6, 5}, {"INPUT", math.MinInt64, data, room, 5}, {"", 0, data, 3, 0}, {"INPUT", 0, data + api.Page - 2, 5, 5}, {"INPUT", 0, data + room - 1, 1, 1}, {"INPUT", 0, blind, api.Page, 5},
		{"INPUT", 0, data, 0, 0}, {"INPUT", 0, 0, 0, 0}, {"INPUT", 0, math.MaxUint64, 0, 0}, {"INPUT", 0, fixed, 0, 0}, {"", 0, 0, 0, 0},
		{"INPUT", 0, fixed, 1, -14}, {"INPUT", 0, data, room + 1, -14}, {"INPUT", 0, data + room - 1, 2, -14}, {"INPUT", 0, data - 1, 2, -14}, {"INPUT", 0, code, 1, -14}, {"INPUT", 0, 0, 1, -14}, {"", 0, 0, 1, -14}, {"", 0, data, room + 1, -14},
		{"INPUT", 0, blind - 1, 2, -14}, {"INPUT", 0, blind, api.Page + 1, -14}, {"INPUT", 0, math.MaxUint64, 1, -14}, {"INPUT", 0, math.MaxUint64, 2, -14}, {"INPUT", 0, 1<<64 - 4096, 4097, -14}, {"INPUT", 0, 1 << 47, 1, -14}, {"INPUT", 0, data, api.MaxIO, -14},
		{"INPUT", 0, data, api.MaxIO + 1, -22}, {"INPUT", 0, 0, api.MaxIO + 1, -22}, {"", 0, data, 1<<32 + 1, -22}, {"INPUT", 0, data, 1 << 63, -22}, {"INPUT", 0, data, math.MaxUint64, -22},
	} {
		x := made(t, "ecall", c.input).set(17, 63, 10, uint64(c.fd), 11, c.addr, 12, c.n)
		got := max(c.answer, 0)
		var events []api.Event
		if c.answer >= 0 {
			events = []api.Event{{Kind: api.EventRead, Fd: c.fd, N: int(got)}}
		}
		want := make([]byte, room)
		copy(want, "hello")
		if got > 0 && c.addr < blind {
			copy(want[c.addr-data:], c.input[:got])
		}
		s := x.Step()
		b, _ := x.mem.Read(data, room)
		if s != running || int64(x.Reg(10)) != c.answer || x.PC() != code+4 || !sameEvents(x.env.Trace(), events) || !bytes.Equal(b, want) || x.env.Left() != len(c.input)-int(got) {
			t.Errorf("P8.2: read of %q, %d, %#x, %#x: %v, %d, %v, %d wait", c.input, c.fd, c.addr, c.n, s, int64(x.Reg(10)), x.env.Trace(), x.env.Left())
		}
		if b, _ := x.mem.Read(fixed, 6); string(b) != "const\x00" || x.Reg(11) != c.addr || x.Reg(12) != c.n {
			t.Errorf("P8.2: read of %d, %#x, %#x: %q", c.fd, c.addr, c.n, b)
		}
	}
}

// TestReadHole: P8.2: a page amid the room that isn't writable counts.
func TestReadHole(t *testing.T) {
	for hole := range uint64(4) {
		for _, perm := range []int{0, api.PermR, api.PermX, api.PermR | api.PermX} {
			x := made(t, "ecall", "INPUT").set(17, 63, 11, 0x100ffe, 12, 2*api.Page+2)
			for p := range uint64(4) {
				use := api.PermR | api.PermW
				if p == hole {
					use = perm
				}
				x.mem.Map(0x100000+p*api.Page, 1, use, nil)
			}
			want := int64(-14)
			if hole == 3 { // the last byte stands just ahead of this one
				want = 5
			}
			if x.Step(); int64(x.Reg(10)) != want || x.env.Left() != 5-max(int(want), 0) {
				t.Errorf("P8.2: read over page %d with %d: %d", hole, perm, int64(x.Reg(10)))
			}
		}
	}
}

// echo: a program that copies its input to its output, by as many as x9 says, till there is no more.
const echo = `
addi x17, x0, 63
addi x10, x0, 0
add x11, x5, x0
add x12, x9, x0
ecall
beq x10, x0, 28
addi x17, x0, 64
add x12, x10, x0
addi x10, x0, 1
ecall
jal x0, -40
ebreak
addi x17, x0, 93
addi x10, x0, 3
ecall`

// TestEcho: P8.2, P8.4: a whole run: by its steps, by Run, twice the same, whatever another machine does meanwhile.
func TestEcho(t *testing.T) {
	start := func(input string, n uint64) *Mach { return made(t, echo, input).set(5, data+100, 9, n) }
	for _, n := range []uint64{1, 2, 3, 7, 100} {
		const input = "what a program is served with"
		x, y, other := start(input, n), start(input, n), start("else", n)
		for k := 0; k < 10000 && x.Step().Kind == api.Running; k++ {
			other.Step()
		}
		want := api.Status{Kind: api.Exited, Code: 3}
		if s := y.Run(10000); s != want || x.Status() != want || seen(x) != seen(y) {
			t.Errorf("P8.4: by %d: %v, %v", n, s, x.Status())
		}
		if string(x.env.Output(1)) != input || x.env.Left() != 0 || x.PC() != code+14*4 {
			t.Errorf("P8.2: by %d: %q", n, x.env.Output(1))
		}
		var events []api.Event
		for k := 0; k < len(input); k += int(n) {
			piece := input[k:min(k+int(n), len(input))]
			events = append(events, api.Event{Kind: api.EventRead, N: len(piece)}, api.Event{Kind: api.EventWrite, Fd: 1, B: []byte(piece)})
		}
		if events = append(events, api.Event{Kind: api.EventRead}); !sameEvents(x.env.Trace(), events) {
			t.Errorf("P8.2: by %d: %v", n, x.env.Trace())
		}
		if other.Run(10000); string(other.env.Output(1)) != "else" {
			t.Errorf("P8.4: by %d: the other one: %q", n, other.env.Output(1))
		}
	}
}

// TestShared: DOC 3: a machine goes on with the memory and the environment that it was handed.
func TestShared(t *testing.T) {
	x := made(t, "ld x1, 0(x5)\nsd x1, 8(x5)\necall", "ab").set(5, data, 17, 63, 11, data, 12, 1)
	m, e := x.mem, x.env
	m.Store(data, 8, 77)
	x.Run(2)
	if v, _ := m.Load(data+8, 8); v != 77 {
		t.Errorf("P8.1: the memory: %d", v)
	}
	e.Take(1)
	x.Step()
	if v, _ := m.Load(data, 1); v != 'b' || e.Left() != 0 || len(e.Trace()) != 1 {
		t.Errorf("P8.2: the environment: %#x", v)
	}
}

// plain: a machine as the manual tells it, of numbers without bounds where they count: it holds the one above to account.
type plain struct {
	regs   [32]uint64
	pc     uint64
	status api.Status
	bytes  map[uint64]byte // of data's pages
}

func (p *plain) set(i int, v uint64) {
	if i != 0 {
		p.regs[i] = v
	}
}

// load: n bytes of data's pages; false elsewhere.
func (p *plain) load(addr uint64, n int) (uint64, bool) {
	v := uint64(0)
	for k := range n {
		at := addr + uint64(k)
		if at < data || at >= data+2*api.Page {
			return 0, false
		}
		v |= uint64(p.bytes[at]) << (8 * k)
	}
	return v, true
}

func (p *plain) step(i api.Inst) {
	a, b, next, trap := p.regs[i.Rs1], p.regs[i.Rs2], p.pc+4, 0
	goes := false
	switch i.Op {
	case api.LUI:
		p.set(i.Rd, uint64(i.Imm*4096))
	case api.AUIPC:
		p.set(i.Rd, p.pc+uint64(i.Imm*4096))
	case api.JAL, api.JALR:
		to := p.pc + uint64(i.Imm)
		if i.Op == api.JALR {
			to = (a + uint64(i.Imm)) / 2 * 2
		}
		if to%4 != 0 {
			trap = api.TrapAlign
			break
		}
		p.set(i.Rd, next)
		next = to
	case api.BEQ:
		goes = a == b
	case api.BNE:
		goes = a != b
	case api.BLT:
		goes = signed(a, 64).Cmp(signed(b, 64)) < 0
	case api.BGE:
		goes = signed(a, 64).Cmp(signed(b, 64)) >= 0
	case api.BLTU:
		goes = a < b
	case api.BGEU:
		goes = a >= b
	case api.LB, api.LH, api.LW, api.LD, api.LBU, api.LHU, api.LWU:
		n := map[int]int{api.LB: 1, api.LBU: 1, api.LH: 2, api.LHU: 2, api.LW: 4, api.LWU: 4, api.LD: 8}[i.Op]
		v, ok := p.load(a+uint64(i.Imm), n)
		if !ok {
			trap = api.TrapLoad
			break
		}
		if i.Op < api.LBU {
			v = wrapped(new(big.Int).SetUint64(v), uint(8*n))
		}
		p.set(i.Rd, v)
	case api.SB, api.SH, api.SW, api.SD:
		n := 1 << (i.Op - api.SB)
		if _, ok := p.load(a+uint64(i.Imm), n); !ok {
			trap = api.TrapStore
			break
		}
		for k := range n {
			p.bytes[a+uint64(i.Imm)+uint64(k)] = byte(b >> (8 * k))
		}
	case api.EBREAK:
		trap = api.TrapBreak
	case api.FENCE:
	default:
		if inst.Form(i.Op) == api.FormI {
			b = uint64(i.Imm)
		}
		v, _ := manual(i.Op, a, b)
		p.set(i.Rd, v)
	}
	if goes {
		if next = p.pc + uint64(i.Imm); next%4 != 0 {
			trap = api.TrapAlign
		}
	}
	if trap != 0 {
		p.status = trapped(trap)
		return
	}
	p.pc = next
}

// someInst: any operation but ECALL; its places mostly within data, its jumps mostly within the program.
func someInst(r *rand.Rand) api.Inst {
	for {
		i := api.Inst{Op: 1 + r.Intn(api.Ops-1), Rd: r.Intn(8), Rs1: r.Intn(8), Rs2: r.Intn(8)}
		switch inst.Form(i.Op) {
		case api.FormI, api.FormS:
			i.Imm = int64(r.Intn(200) - 100)
			if i.Op <= api.SD && i.Op != api.JALR && r.Intn(8) > 0 {
				i.Rs1 = 20 + r.Intn(2)
			}
		case api.FormB, api.FormJ:
			i.Imm = int64(r.Intn(20)-6) * 4
			if r.Intn(20) == 0 {
				i.Imm += 2
			}
		case api.FormU:
			i.Imm = int64(r.Intn(1<<20) - 1<<19)
		}
		w, ok := inst.Encode(i)
		if !ok || i.Op == api.ECALL || i.Op == api.EBREAK && r.Intn(9) > 0 {
			continue
		}
		d, _ := inst.Decode(w)
		return d
	}
}

// TestModel: P8.1, P8.3: any programs, step by step against the plain machine.
func TestModel(t *testing.T) {
	r := rand.New(rand.NewSource(81))
	seenOps := map[int]bool{}
	for run := range 400 {
		words := make([]uint32, 60)
		for k := range words {
			words[k], _ = inst.Encode(someInst(r))
		}
		x := loaded(t, words, "")
		p := &plain{pc: code, bytes: map[uint64]byte{}}
		for k, b := range []byte("hello") {
			p.bytes[data+uint64(k)] = b
		}
		give := func(i int, v uint64) {
			x.Set(i, v)
			p.set(i, v)
		}
		give(20, data+api.Page)
		give(21, data+150)
		for i := 1; i < 8; i++ {
			give(i, ends()[r.Intn(len(ends()))])
		}
		for step := 0; step < 150 && p.status == running; step++ {
			k := (p.pc - code) / 4
			if p.pc < code || k >= uint64(len(words)) {
				break
			}
			i, _ := inst.Decode(words[k])
			seenOps[i.Op] = true
			p.step(i)
			if s := x.Step(); s != p.status || x.PC() != p.pc {
				t.Fatalf("P8.1: run %d, %s: %v, PC %#x; wanted %v, %#x", run, asm.Text(i), s, x.PC(), p.status, p.pc)
			}
			for j := range 32 {
				if x.Reg(j) != p.regs[j] {
					t.Fatalf("P8.1: run %d, %s: x%d is %#x, wanted %#x", run, asm.Text(i), j, x.Reg(j), p.regs[j])
				}
			}
		}
		b, _ := x.mem.Read(data, 2*api.Page)
		for k := range b {
			if b[k] != p.bytes[data+uint64(k)] {
				t.Fatalf("P8.1: run %d: byte %#x is %d", run, data+k, b[k])
			}
		}
	}
	for op := api.LUI; op < api.Ops; op++ {
		if !seenOps[op] && op != api.ECALL {
			t.Errorf("%s was never done", inst.Name(op))
		}
	}
}

// TestAnything: P8.1, P8.4: words of any bits, registers of any values: it ends without a panic, and the same again.
func TestAnything(t *testing.T) {
	r := rand.New(rand.NewSource(84))
	for range 300 {
		words := make([]uint32, 40)
		for k := range words {
			words[k] = r.Uint32()
			if r.Intn(3) > 0 {
				words[k], _ = inst.Encode(someInst(r))
			}
			if r.Intn(6) == 0 {
				words[k] = 0x73
			}
		}
		x, y := loaded(t, words, "some input"), loaded(t, words, "some input")
		for i := 1; i < 32; i++ {
			v := []uint64{63, 64, data + uint64(r.Intn(5000)), uint64(r.Intn(70000)), r.Uint64(), 0}[r.Intn(6)]
			x.Set(i, v)
			y.Set(i, v)
		}
		if s := x.Run(500); s.Kind == api.Undefined || s != x.Status() {
			t.Fatalf("P8.1: %v", s)
		}
		for k := 0; k < 500; k++ {
			y.Step()
		}
		if seen(x) != seen(y) {
			t.Fatalf("P8.4: not the same again: %s, %s", seen(x), seen(y))
		}
	}
}
