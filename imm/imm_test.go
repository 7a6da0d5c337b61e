package imm

import (
	"math"
	"math/big"
	"testing"

	"dovetail/api"
)

// shape: a form's immediate as the chapter tells it: the word's bits, the highest first, and how many noughts follow.
type shape struct {
	form    int
	bits    []int
	noughts int
}

func down(from, to int) []int {
	var out []int
	for i := from; i >= to; i-- {
		out = append(out, i)
	}
	return out
}

func joined(lists ...[]int) []int {
	var out []int
	for _, l := range lists {
		out = append(out, l...)
	}
	return out
}

func shapes() []shape {
	return []shape{
		{api.FormI, down(31, 20), 0},
		{api.FormS, joined(down(31, 25), down(11, 7)), 0},
		{api.FormB, joined(down(31, 31), down(7, 7), down(30, 25), down(11, 8)), 1},
		{api.FormU, down(31, 12), 0},
		{api.FormJ, joined(down(31, 31), down(19, 12), down(20, 20), down(30, 21)), 1},
		{api.FormR, nil, 0}, {api.FormN, nil, 0}, {-1, nil, 0}, {api.FormN + 1, nil, 0}, {99, nil, 0}, {math.MinInt, nil, 0}, {math.MaxInt, nil, 0},
	}
}

func (s shape) mask() uint32 {
	var m uint32
	for _, b := range s.bits {
		m |= 1 << b
	}
	return m
}

// read: the immediate, bit by bit: the highest bit counts below 0, each further one doubles what is there.
func (s shape) read(w uint32) int64 {
	var v int64
	for i, b := range s.bits {
		bit := int64(w >> b & 1)
		if i == 0 {
			bit = -bit
		}
		v = v*2 + bit
	}
	for range s.noughts {
		v *= 2
	}
	return v
}

// least, most: the bounds of the shape's numbers.
func (s shape) least() int64 {
	if len(s.bits) == 0 {
		return 0
	}
	return -1 << (len(s.bits) + s.noughts - 1)
}

func (s shape) most() int64 {
	if len(s.bits) == 0 {
		return 0
	}
	return -s.least() - s.step()
}

func (s shape) step() int64 { return 1 << s.noughts }

// words: noughts, ones, each bit alone and missing, and a row of mixed ones.
func words() []uint32 {
	out := []uint32{0, math.MaxUint32, 0x5a5a5a5a, 0xa5a5a5a5, 0x12345678, 0xfff00013, 0x00000013}
	for i := range 32 {
		out = append(out, 1<<i, ^uint32(1<<i))
	}
	x := uint32(1)
	for range 300 {
		x = x*1664525 + 1013904223
		out = append(out, x^x>>16)
	}
	return out
}

// numbers: around 0, around each power of two, and at both ends.
func numbers() []int64 {
	var out []int64
	for v := int64(-5000); v <= 5000; v++ {
		out = append(out, v)
	}
	for k := range 63 {
		for d := int64(-3); d <= 3; d++ {
			out = append(out, 1<<k+d, -(1<<k)+d)
		}
	}
	for d := range int64(5000) {
		out = append(out, math.MaxInt64-d, math.MinInt64+d)
	}
	return out
}

// P3.1: Get by hand; the chapter's example is the first.
func TestGet(t *testing.T) {
	for _, c := range []struct {
		form int
		w    uint32
		want int64
	}{
		{api.FormI, 0xfff00013, -1}, {api.FormI, 0x7ff00013, 2047}, {api.FormI, 0x80000000, -2048}, {api.FormI, 0x00100000, 1}, {api.FormI, 0x000fffff, 0},
		{api.FormS, 0xfe000f80, -1}, {api.FormS, 0x80000000, -2048}, {api.FormS, 0x00000080, 1}, {api.FormS, 0x02000000, 32}, {api.FormS, 0x01fff07f, 0},
		{api.FormB, 0xfe000f80, -2}, {api.FormB, 0x80000000, -4096}, {api.FormB, 0x00000080, 2048}, {api.FormB, 0x00000100, 2}, {api.FormB, 0x40000000, 1024}, {api.FormB, 0x01fff07f, 0},
		{api.FormU, 0xfffff000, -1}, {api.FormU, 0x80000000, -524288}, {api.FormU, 0x7ffff000, 524287}, {api.FormU, 0x00001000, 1}, {api.FormU, 0x00000fff, 0},
		{api.FormJ, 0xfffff000, -2}, {api.FormJ, 0x80000000, -1048576}, {api.FormJ, 0x00100000, 2048}, {api.FormJ, 0x00001000, 4096}, {api.FormJ, 0x00200000, 2}, {api.FormJ, 0x00000fff, 0},
		{api.FormR, 0xffffffff, 0}, {api.FormN, 0xffffffff, 0}, {-1, 0xffffffff, 0}, {99, 0xffffffff, 0},
	} {
		if got := Get(c.form, c.w); got != c.want {
			t.Errorf("P3.1: Get(%d, %#x) is %d, not %d", c.form, c.w, got, c.want)
		}
	}
}

// P3.1: Get of many words, held against reading them bit by bit.
func TestGetBitByBit(t *testing.T) {
	for _, s := range shapes() {
		for _, w := range words() {
			if got := Get(s.form, w); got != s.read(w) {
				t.Errorf("P3.1: Get(%d, %#x) is %d, not %d", s.form, w, got, s.read(w))
			}
		}
	}
}

// P3.1: Fits, held against the bounds and the steps of each form's numbers.
func TestFits(t *testing.T) {
	for _, s := range shapes() {
		near := append(numbers(), s.least()-2, s.least()-1, s.least(), s.least()+1, s.least()+2, s.most()-1, s.most(), s.most()+1, s.most()+2)
		for _, v := range near {
			if want := s.least() <= v && v <= s.most() && v%s.step() == 0; Fits(s.form, v) != want {
				t.Errorf("P3.1: Fits(%d, %d) is not %v", s.form, v, want)
			}
		}
	}
}

// P3.1: the bounds by hand, with what is just beyond them, and numbers whose low bits alone would do.
func TestFitsBounds(t *testing.T) {
	for _, c := range []struct {
		form int
		v    int64
		want bool
	}{
		{api.FormI, -2048, true}, {api.FormI, 2047, true}, {api.FormI, -2049, false}, {api.FormI, 2048, false}, {api.FormI, 1<<32 + 1, false}, {api.FormI, 1<<32 - 1, false},
		{api.FormS, -2048, true}, {api.FormS, 2047, true}, {api.FormS, -2049, false}, {api.FormS, 2048, false}, {api.FormS, 1 << 32, false},
		{api.FormB, -4096, true}, {api.FormB, 4094, true}, {api.FormB, -4098, false}, {api.FormB, 4096, false}, {api.FormB, 1, false}, {api.FormB, -1, false}, {api.FormB, 4095, false},
		{api.FormU, -524288, true}, {api.FormU, 524287, true}, {api.FormU, -524289, false}, {api.FormU, 524288, false}, {api.FormU, 0xfffff, false}, {api.FormU, 1, true},
		{api.FormJ, -1048576, true}, {api.FormJ, 1048574, true}, {api.FormJ, -1048578, false}, {api.FormJ, 1048576, false}, {api.FormJ, 1, false}, {api.FormJ, 1048575, false},
		{api.FormR, 0, true}, {api.FormR, 1, false}, {api.FormR, 1 << 32, false}, {api.FormN, 0, true}, {api.FormN, -1, false}, {99, 0, true}, {99, 2, false}, {-1, 0, true}, {-1, math.MinInt64, false},
	} {
		if Fits(c.form, c.v) != c.want {
			t.Errorf("P3.1: Fits(%d, %d) is not %v", c.form, c.v, c.want)
		}
	}
}

// P3.1: Put changes the immediate's bits and no other; 0 and false where it doesn't fit.
func TestPut(t *testing.T) {
	for _, s := range shapes() {
		for _, w := range words() {
			for _, x := range words() {
				got, ok := Put(s.form, w, s.read(x))
				if want := w&^s.mask() | x&s.mask(); got != want || !ok {
					t.Fatalf("P3.1: Put(%d, %#x, %d): %#x, %v, not %#x", s.form, w, s.read(x), got, ok, want)
				}
			}
		}
		for _, v := range []int64{s.least() - s.step(), s.most() + s.step(), s.most() + 1, math.MinInt64, math.MaxInt64, 1 << 32, 1 << 33, -1 << 32} {
			if got, ok := Put(s.form, 0x5a5a5a5a, v); got != 0 || ok {
				t.Errorf("P3.1: Put(%d, .., %d): %#x, %v", s.form, v, got, ok)
			}
		}
	}
}

// P3.3: what was put is got, wherever Put tells true; and it does just where Fits.
func TestPutGet(t *testing.T) {
	for _, s := range shapes() {
		for _, w := range []uint32{0, math.MaxUint32, 0x5a5a5a5a} {
			for _, v := range numbers() {
				got, ok := Put(s.form, w, v)
				if ok != Fits(s.form, v) {
					t.Errorf("P3.1: Put(%d, %#x, %d) is %v, Fits isn't", s.form, w, v, ok)
				}
				if ok && Get(s.form, got) != v {
					t.Errorf("P3.3: Put(%d, %#x, %d) is got as %d", s.form, w, v, Get(s.form, got))
				}
			}
		}
	}
}

// P3.2: Sign by hand: numbers of bits below 1 and above 64 too.
func TestSign(t *testing.T) {
	for _, c := range []struct {
		v    uint64
		bits int
		want int64
	}{
		{0xfff, 12, -1}, {0x7ff, 12, 2047}, {0x800, 12, -2048}, {0x1800, 12, -2048}, {0x17ff, 12, 2047},
		{5, 1, -1}, {4, 1, 0}, {5, 0, 0}, {5, -1, 0}, {5, math.MinInt, 0}, {math.MaxUint64, 0, 0},
		{math.MaxUint64, 64, -1}, {1 << 63, 64, math.MinInt64}, {1<<63 - 1, 64, math.MaxInt64}, {1<<63 - 1, 63, -1}, {1 << 63, 63, 0},
		{1 << 63, 65, math.MinInt64}, {7, 65, 7}, {math.MaxUint64, 128, -1}, {7, math.MaxInt, 7},
	} {
		if got := Sign(c.v, c.bits); got != c.want {
			t.Errorf("P3.2: Sign(%#x, %d) is %d, not %d", c.v, c.bits, got, c.want)
		}
	}
}

// P3.2: Sign, held against numbers that have no bound.
func TestSignUnbounded(t *testing.T) {
	one := big.NewInt(1)
	for bits := 1; bits <= 64; bits++ {
		whole, half := new(big.Int).Lsh(one, uint(bits)), new(big.Int).Lsh(one, uint(bits-1))
		for _, v := range numbers() {
			want := new(big.Int).Mod(new(big.Int).SetUint64(uint64(v)), whole)
			if want.Cmp(half) >= 0 {
				want.Sub(want, whole)
			}
			if got := Sign(uint64(v), bits); got != want.Int64() {
				t.Fatalf("P3.2: Sign(%#x, %d) is %d, not %d", uint64(v), bits, got, want)
			}
		}
	}
}

// P3.2: Hi and Lo by hand: where Lo turns negative, where v is, and where the sum wraps.
func TestHiLo(t *testing.T) {
	for _, c := range []struct{ v, hi, lo int64 }{
		{0, 0, 0}, {1, 0, 1}, {2047, 0, 2047}, {2048, 1, -2048}, {4095, 1, -1}, {4096, 1, 0},
		{0x12345fff, 0x12346, -1}, {0x123457ff, 0x12345, 0x7ff}, {0x12345800, 0x12346, -2048},
		{-1, 0, -1}, {-2048, 0, -2048}, {-2049, -1, 2047}, {-4096, -1, 0}, {-6144, -1, -2048}, {-6145, -2, 2047},
		{math.MaxInt64 - 2048, 1<<51 - 1, 2047}, {math.MaxInt64 - 2047, -1 << 51, -2048}, {math.MaxInt64, -1 << 51, -1},
		{math.MinInt64, -1 << 51, 0}, {math.MinInt64 + 2047, -1 << 51, 2047}, {math.MinInt64 + 2048, -1<<51 + 1, -2048},
	} {
		if Hi(c.v) != c.hi || Lo(c.v) != c.lo {
			t.Errorf("P3.2: of %d: Hi %d, Lo %d, not %d, %d", c.v, Hi(c.v), Lo(c.v), c.hi, c.lo)
		}
	}
}

// P3.2, P3.3: Hi and Lo, held against division downwards, and together v again.
func TestHiLoTogether(t *testing.T) {
	page := big.NewInt(4096)
	for _, v := range numbers() {
		sum := v + 2048 // wraps
		want := new(big.Int).Div(big.NewInt(sum), page)
		if Hi(v) != want.Int64() {
			t.Errorf("P3.2: Hi(%d) is %d, not %d", v, Hi(v), want)
		}
		if low := ((uint64(v) + 2048) % 4096); Lo(v) != int64(low)-2048 {
			t.Errorf("P3.2: Lo(%d) is %d", v, Lo(v))
		}
		if 4096*Hi(v)+Lo(v) != v {
			t.Errorf("P3.3: Hi(%d), Lo(%d): %d, %d", v, v, Hi(v), Lo(v))
		}
	}
}
