package le

import (
	"bytes"
	"math"
	"testing"
)

// offsets: all that lie near a list of size bytes, and those that wrap if something is added to them.
func offsets(size int) []uint64 {
	var out []uint64
	for off := range uint64(size + 10) {
		out = append(out, off, -off, 1<<63+off, 1<<63-off, 1<<32+off)
	}
	return out
}

// fits: the range's bytes one by one, each held against the list's length.
func fits(size int, off, n uint64) bool {
	if off > uint64(size) || n > 64 {
		return false
	}
	for i := range n {
		if off+i >= uint64(size) {
			return false
		}
	}
	return true
}

// value: the number by multiplication, the highest byte first.
func value(b []byte) uint64 {
	var v uint64
	for i := len(b) - 1; i >= 0; i-- {
		v = v*256 + uint64(b[i])
	}
	return v
}

// sample: size bytes, none of them 0 and no two alike, with spare room behind them that is full of others.
func sample(size int) (b, spare []byte) {
	whole := make([]byte, size+16)
	for i := range whole {
		whole[i] = byte(0xf1 - 7*i)
	}
	return whole[:size], whole[size:]
}

func mustEqual(t *testing.T, promise string, got, want []byte) {
	t.Helper()
	if !bytes.Equal(got, want) {
		t.Errorf("%s: %x, want %x", promise, got, want)
	}
}

// P1.1: numbers, the lowest byte first.
func TestNumbers(t *testing.T) {
	b := []byte{0x01, 0x02, 0x83, 0x04, 0x05, 0x06, 0x07, 0xf8, 0xff}
	if v, ok := U16([]byte{1, 2}, 0); v != 0x201 || !ok {
		t.Errorf("P1.1: U16 tells %x, %v", v, ok)
	}
	if v, ok := U16(b, 1); v != 0x8302 || !ok {
		t.Errorf("P1.1: U16 tells %x, %v", v, ok)
	}
	if v, ok := U32(b, 0); v != 0x04830201 || !ok {
		t.Errorf("P1.1: U32 tells %x, %v", v, ok)
	}
	if v, ok := U32(b, 5); v != 0xfff80706 || !ok {
		t.Errorf("P1.1: U32 tells %x, %v", v, ok)
	}
	if v, ok := U64(b, 0); v != 0xf807060504830201 || !ok {
		t.Errorf("P1.1: U64 tells %x, %v", v, ok)
	}
	if v, ok := U64(b, 1); v != 0xfff8070605048302 || !ok {
		t.Errorf("P1.1: U64 tells %x, %v", v, ok)
	}
}

// P1.1, P1.3: numbers at each offset of each small list; what doesn't lie within is 0, false, though the spare room would have it.
func TestNumbersEverywhere(t *testing.T) {
	for size := range 20 {
		b, _ := sample(size)
		for _, off := range offsets(size) {
			var want [9]uint64
			for _, n := range []uint64{2, 4, 8} {
				if fits(size, off, n) {
					want[n] = value(b[off : off+n])
				}
			}
			if v, ok := U16(b, off); ok != fits(size, off, 2) || uint64(v) != want[2] {
				t.Fatalf("P1.1: U16 of %d bytes at %d: %x, %v", size, off, v, ok)
			}
			if v, ok := U32(b, off); ok != fits(size, off, 4) || uint64(v) != want[4] {
				t.Fatalf("P1.1: U32 of %d bytes at %d: %x, %v", size, off, v, ok)
			}
			if v, ok := U64(b, off); ok != fits(size, off, 8) || v != want[8] {
				t.Fatalf("P1.1: U64 of %d bytes at %d: %x, %v", size, off, v, ok)
			}
		}
	}
}

// P1.1, P1.3: Cut at each offset, of each length.
func TestCutEverywhere(t *testing.T) {
	for size := range 12 {
		b, _ := sample(size)
		for _, off := range offsets(size) {
			for _, n := range offsets(size) {
				got, ok := Cut(b, off, n)
				if ok != fits(size, off, n) {
					t.Fatalf("P1.1: Cut of %d bytes at %d, %d of them: %v", size, off, n, ok)
				}
				if ok && !bytes.Equal(got, b[off:off+n]) || !ok && len(got) != 0 {
					t.Fatalf("P1.1: Cut of %d bytes at %d, %d of them: %x", size, off, n, got)
				}
			}
		}
	}
}

// P1.1: of n 0 off may be b's length, and no more; of an empty list there is nothing else.
func TestCutOfNone(t *testing.T) {
	for _, x := range []struct {
		b   []byte
		off uint64
		ok  bool
	}{{nil, 0, true}, {nil, 1, false}, {[]byte{}, 0, true}, {[]byte{1, 2}, 2, true}, {[]byte{1, 2}, 3, false}, {[]byte{1, 2}, math.MaxUint64, false}} {
		if got, ok := Cut(x.b, x.off, 0); ok != x.ok || len(got) != 0 {
			t.Errorf("P1.1: Cut(%x, %d, 0): %x, %v", x.b, x.off, got, ok)
		}
	}
}

// P1.1: what Cut tells is a copy, its spare room too.
func TestCutIsACopy(t *testing.T) {
	b := []byte{1, 2, 3, 4}
	got, _ := Cut(b, 1, 2)
	got[0] = 9
	_ = append(got, 9)
	mustEqual(t, "P1.1", b, []byte{1, 2, 3, 4})
	none, _ := Cut(b, 1, 0)
	_ = append(none, 9)
	mustEqual(t, "P1.1", b, []byte{1, 2, 3, 4})
}

// P1.2: numbers behind bytes: none, one, several; the highest and the least.
func TestPut(t *testing.T) {
	mustEqual(t, "P1.2", Put16([]byte{9, 8}), []byte{9, 8})
	mustEqual(t, "P1.2", Put32([]byte{9, 8}), []byte{9, 8})
	mustEqual(t, "P1.2", Put64([]byte{9, 8}), []byte{9, 8})
	mustEqual(t, "P1.2", Put16(nil), nil)
	mustEqual(t, "P1.2", Put32(nil), nil)
	mustEqual(t, "P1.2", Put64(nil), nil)
	mustEqual(t, "P1.2", Put16(nil, 0x8001), []byte{1, 0x80})
	mustEqual(t, "P1.2", Put32(nil, 0x80030201), []byte{1, 2, 3, 0x80})
	mustEqual(t, "P1.2", Put64(nil, 0x8007060504030201), []byte{1, 2, 3, 4, 5, 6, 7, 0x80})
	mustEqual(t, "P1.2", Put16([]byte{9}, 0, 0x0201, math.MaxUint16), []byte{9, 0, 0, 1, 2, 255, 255})
	mustEqual(t, "P1.2", Put32([]byte{9}, 0, 0x0201, math.MaxUint32),
		[]byte{9, 0, 0, 0, 0, 1, 2, 0, 0, 255, 255, 255, 255})
	mustEqual(t, "P1.2", Put64([]byte{9}, 0, 0x0201, math.MaxUint64),
		[]byte{9, 0, 0, 0, 0, 0, 0, 0, 0, 1, 2, 0, 0, 0, 0, 0, 0, 255, 255, 255, 255, 255, 255, 255, 255})
}

// P1.2: what Put16, Put32, Put64 are handed stays as it is, its spare room too, and the answer shares nothing with it.
func TestPutLeavesWhatItIsHanded(t *testing.T) {
	for name, put := range map[string]func(b []byte) []byte{
		"Put16": func(b []byte) []byte { return Put16(b, 0x5555) },
		"Put32": func(b []byte) []byte { return Put32(b, 0x55555555) },
		"Put64": func(b []byte) []byte { return Put64(b, 0x5555555555555555) },

		"Put16 of none": func(b []byte) []byte { return Put16(b) },
		"Put32 of none": func(b []byte) []byte { return Put32(b) },
		"Put64 of none": func(b []byte) []byte { return Put64(b) },
	} {
		b, spare := sample(3)
		want, wantSpare := bytes.Clone(b), bytes.Clone(spare)
		got := put(b)
		got[0], got[2] = 0x77, 0x77
		_ = append(got, 0x77, 0x77)
		mustEqual(t, "P1.2: "+name, b, want)
		mustEqual(t, "P1.2: "+name+": spare room", spare, wantSpare)
	}
	two, four, eight := []uint16{1, 2}, []uint32{1, 2}, []uint64{1, 2}
	Put16(nil, two...)
	Put32(nil, four...)
	Put64(nil, eight...)
	if two[0] != 1 || two[1] != 2 || four[0] != 1 || four[1] != 2 || eight[0] != 1 || eight[1] != 2 {
		t.Error("P1.2: the numbers that were handed in have changed")
	}
}

// P1.2: Set puts v's lowest n bytes, and no more.
func TestSet(t *testing.T) {
	b := []byte{1, 2, 3, 4, 5, 6, 7, 8, 9, 10}
	const v = 0x8877665544332211
	for _, x := range []struct {
		off  uint64
		n    int
		want []byte
	}{
		{0, 1, []byte{0x11, 2, 3, 4, 5, 6, 7, 8, 9, 10}},
		{9, 1, []byte{1, 2, 3, 4, 5, 6, 7, 8, 9, 0x11}},
		{4, 3, []byte{1, 2, 3, 4, 0x11, 0x22, 0x33, 8, 9, 10}},
		{5, 5, []byte{1, 2, 3, 4, 5, 0x11, 0x22, 0x33, 0x44, 0x55}},
		{2, 8, []byte{1, 2, 0x11, 0x22, 0x33, 0x44, 0x55, 0x66, 0x77, 0x88}},
	} {
		got, ok := Set(b, x.off, v, x.n)
		if !ok {
			t.Errorf("P1.2: Set at %d, %d bytes: false", x.off, x.n)
		}
		mustEqual(t, "P1.2", got, x.want)
	}
}

// P1.2, P1.3: Set at each offset, of each n, of wrong ones too: the copy is as long as b and differs there alone; b stays as it is, its spare room too.
func TestSetEverywhere(t *testing.T) {
	const v = 0xf7e6d5c4b3a29180
	lengths := []int{0, 1, 2, 3, 4, 5, 6, 7, 8, 9, 10, 16, 256, 1 << 32, -1, -2, -8, -255, math.MaxInt, math.MinInt, math.MinInt + 1}
	for size := range 18 {
		b, spare := sample(size)
		want, wantSpare := bytes.Clone(b), bytes.Clone(spare)
		for _, off := range offsets(size) {
			for _, n := range lengths {
				got, ok := Set(b, off, v, n)
				good := n >= 1 && n <= 8 && fits(size, off, uint64(n))
				if ok != good || !good && len(got) != 0 {
					t.Fatalf("P1.2: Set of %d bytes at %d, %d of them: %x, %v", size, off, n, got, ok)
				}
				if !good {
					continue
				}
				end := off + uint64(n)
				if len(got) != size || !bytes.Equal(got[:off], want[:off]) || !bytes.Equal(got[end:], want[end:]) ||
					value(got[off:end]) != v&(math.MaxUint64>>(64-8*n)) {
					t.Fatalf("P1.2: Set of %d bytes at %d, %d of them: %x", size, off, n, got)
				}
				_ = append(got, 0x77)
				if !bytes.Equal(b, want) || !bytes.Equal(spare, wantSpare) {
					t.Fatalf("P1.2: Set of %d bytes at %d, %d of them has changed what it was handed", size, off, n)
				}
			}
		}
	}
}

// P1.3: where off and n wrap round, or the spare room has the bytes, nothing is read and nothing panics.
func TestNothingBeyond(t *testing.T) {
	whole := []byte{1, 2, 3, 4, 5, 6, 7, 8, 9, 10, 11, 12}
	b := whole[:4]
	if _, ok := U64(b, 0); ok {
		t.Error("P1.3: U64 reads the spare room")
	}
	for _, x := range []struct{ off, n uint64 }{
		{0, 5}, {4, 1}, {5, 0}, {3, 2}, {0, 12},
		{math.MaxUint64, 1}, {math.MaxUint64, 2}, {math.MaxUint64 - 2, 3}, {1, math.MaxUint64}, {4, math.MaxUint64 - 3},
		{1 << 63, 1 << 63}, {0, 1 << 63}, {0, 1 << 32}, {1 << 32, 0}, {math.MaxUint64, math.MaxUint64},
	} {
		if got, ok := Cut(b, x.off, x.n); ok || len(got) != 0 {
			t.Errorf("P1.3: Cut at %d, %d of them: %x, %v", x.off, x.n, got, ok)
		}
	}
	for _, off := range []uint64{3, 4, 8, 1 << 32, 1 << 63, math.MaxUint64 - 1, math.MaxUint64} {
		if v, ok := U16(b, off); ok || v != 0 {
			t.Errorf("P1.3: U16 at %d: %x, %v", off, v, ok)
		}
		if got, ok := Set(b, off, 0, 2); ok || len(got) != 0 {
			t.Errorf("P1.3: Set at %d: %x, %v", off, got, ok)
		}
	}
	mustEqual(t, "P1.3", whole, []byte{1, 2, 3, 4, 5, 6, 7, 8, 9, 10, 11, 12})
}
