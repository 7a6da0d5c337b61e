package head

import (
	"bytes"
	"encoding/binary"
	"math"
	"math/rand"
	"testing"

	"dovetail/api"
)

// plainHead: a head written out byte by byte, as the chapter has it.
func plainHead(shoff uint64, flags uint32, shnum, shstrndx uint16) []byte {
	b := []byte{0x7f, 0x45, 0x4c, 0x46, 2, 1, 1, 0, 0, 0, 0, 0, 0, 0, 0, 0, 1, 0, 243, 0, 1, 0, 0, 0, 0, 0, 0, 0, 0, 0, 0, 0, 0, 0, 0, 0, 0, 0, 0, 0}
	b = binary.LittleEndian.AppendUint64(b, shoff)
	b = binary.LittleEndian.AppendUint32(b, flags)
	b = append(b, 64, 0, 0, 0, 0, 0, 64, 0)
	b = binary.LittleEndian.AppendUint16(b, shnum)
	return binary.LittleEndian.AppendUint16(b, shstrndx)
}

// filled: b, and behind it so many bytes that it has size.
func filled(b []byte, size int) []byte {
	return append(b, bytes.Repeat([]byte{0xa5}, size-len(b))...)
}

// plainParse: the chapter's words one by one, each number read by itself.
func plainParse(b []byte) (api.Head, bool) {
	if len(b) > 1<<20 || len(b) < 64 {
		return api.Head{}, false
	}
	if string(b[:16]) != "\x7fELF\x02\x01\x01"+string(make([]byte, 9)) {
		return api.Head{}, false
	}
	le := binary.LittleEndian
	fixed := le.Uint16(b[16:]) == 1 && le.Uint16(b[18:]) == 243 && le.Uint32(b[20:]) == 1 && le.Uint64(b[24:]) == 0 && le.Uint64(b[32:]) == 0
	fixed = fixed && le.Uint32(b[48:]) < 8 && le.Uint16(b[52:]) == 64 && le.Uint16(b[54:]) == 0 && le.Uint16(b[56:]) == 0 && le.Uint16(b[58:]) == 64
	shoff, shnum, shstrndx := le.Uint64(b[40:]), int(le.Uint16(b[60:])), int(le.Uint16(b[62:]))
	if !fixed || shnum < 1 || shnum > 400 || shstrndx >= shnum || shoff&7 != 0 {
		return api.Head{}, false
	}
	if shoff > 1<<20 || int(shoff)+64*shnum > len(b) {
		return api.Head{}, false
	}
	return api.Head{Shoff: shoff, Shnum: shnum, Shstrndx: shstrndx}, true
}

// held: whether Parse answers as plainParse does.
func held(t *testing.T, what string, b []byte) bool {
	t.Helper()
	want, good := plainParse(b)
	e := api.ErrHead
	if good {
		e = api.OK
	}
	got, err := Parse(b)
	if got != want || err != e {
		t.Errorf("P10.1: %s: %+v, %v, wanted %+v, %v", what, got, err, want, e)
		return false
	}
	return true
}

// TestBytes: P10.1: the 64 bytes of heads, right ones and any others; of numbers their lowest bytes.
func TestBytes(t *testing.T) {
	for _, c := range []struct {
		h               api.Head
		shnum, shstrndx uint16
	}{
		{api.Head{}, 0, 0},
		{api.Head{Shoff: 0x120, Shnum: 3, Shstrndx: 2}, 3, 2},
		{api.Head{Shoff: 0x1122334455667788, Shnum: 0x1122, Shstrndx: 0x3344}, 0x1122, 0x3344},
		{api.Head{Shoff: math.MaxUint64, Shnum: 65535, Shstrndx: 65535}, 65535, 65535},
		{api.Head{Shoff: 1, Shnum: 65536, Shstrndx: 65537}, 0, 1},
		{api.Head{Shoff: 1 << 63, Shnum: -1, Shstrndx: -2}, 65535, 65534},
		{api.Head{Shoff: 1 << 32, Shnum: math.MinInt, Shstrndx: math.MaxInt}, 0, 65535},
		{api.Head{Shnum: 1<<32 + 5, Shstrndx: 1<<48 + 4}, 5, 4},
	} {
		if b := Bytes(c.h); !bytes.Equal(b, plainHead(c.h.Shoff, 0, c.shnum, c.shstrndx)) {
			t.Errorf("P10.1: Bytes(%+v): %x", c.h, b)
		}
	}
}

// TestParse: P10.1: heads at the edges of what may be, whatever stands behind them, and one past those edges.
func TestParse(t *testing.T) {
	for _, c := range []struct {
		shoff           uint64
		shnum, shstrndx uint16
		size            int
		ok              bool
	}{
		{64, 1, 0, 128, true},
		{0x120, 3, 2, 0x120 + 3*64, true},
		{0x120, 3, 2, 0x120 + 3*64 - 1, false},
		{0x120, 3, 2, 0x120 + 3*64 + 1, true},
		{0, 1, 0, 64, true},
		{0, 2, 0, 127, false},
		{0, 2, 0, 128, true},
		{8, 1, 0, 72, true},
		{8, 1, 0, 71, false},
		{8, 1, 0, 64, false},
		{64, 0, 0, 1000, false},
		{64, 1, 1, 1000, false},
		{64, 3, 3, 1000, false},
		{64, 3, 65535, 1000, false},
		{64, 3, 256 + 2, 1000, false},
		{64, 399, 398, 64 * 400, true},
		{64, 400, 399, 64 * 401, true},
		{64, 400, 0, 64*401 - 1, false},
		{64, 400, 400, 64 * 401, false},
		{64, 401, 0, 64 * 402, false},
		{64, 401, 400, 1 << 20, false},
		{0, 16384, 0, 1 << 20, false},
		{0, 65535, 0, 1 << 20, false},
		{0, 65535, 65534, 1 << 20, false},
		{64, 1, 0, 1<<20 - 1, true},
		{64, 1, 0, 1 << 20, true},
		{64, 1, 0, 1<<20 + 1, false},
		{64, 1, 0, 1 << 21, false},
		{1<<20 - 64, 1, 0, 1 << 20, true},
		{1<<20 - 56, 1, 0, 1 << 20, false},
		{1 << 20, 1, 0, 1 << 20, false},
		{1<<20 - 64*400, 400, 7, 1 << 20, true},
		{1<<20 - 64*400 + 8, 400, 7, 1 << 20, false},
	} {
		b := filled(plainHead(c.shoff, 0, c.shnum, c.shstrndx), c.size)
		want, e := api.Head{Shoff: c.shoff, Shnum: int(c.shnum), Shstrndx: int(c.shstrndx)}, api.OK
		if !c.ok {
			want, e = api.Head{}, api.ErrHead
		}
		if got, err := Parse(b); got != want || err != e {
			t.Errorf("P10.1: %+v: %+v, %v", c, got, err)
		}
		held(t, "an edge", b)
	}
}

// TestParseShoff: P10.1: headers at no multiple of 8, at the file's end, and so far off that a sum would wrap.
func TestParseShoff(t *testing.T) {
	for shoff := range uint64(1100) {
		held(t, "a place near the file's end", filled(plainHead(shoff, 0, 2, 1), 1024))
	}
	for _, far := range []uint64{1 << 16, 1 << 20, 1 << 31, 1 << 32, 1 << 48, 1 << 63, 0} {
		for _, near := range []uint64{0, 64, 128, 1024 - 128, 1024} {
			for _, shnum := range []uint16{1, 2, 400} {
				held(t, "a place far off", filled(plainHead(far+near, 0, shnum, 0), 1024))
				held(t, "a place far off", filled(plainHead(far-near, 0, shnum, 0), 1024))
				held(t, "a place far off", filled(plainHead(far-near-8, 0, shnum, 0), 1024))
			}
		}
	}
}

// TestParseFlags: P10.1: flags 0 to 7, which nothing tells; no others.
func TestParseFlags(t *testing.T) {
	for flags := range uint32(1 << 10) {
		held(t, "flags", filled(plainHead(64, flags, 2, 1), 192))
	}
	for bit := range 32 {
		held(t, "a flag", filled(plainHead(64, 1<<bit, 2, 1), 192))
		held(t, "all flags from one on", filled(plainHead(64, math.MaxUint32<<bit, 2, 1), 192))
	}
	for flags := range uint32(8) {
		if h, e := Parse(filled(plainHead(64, flags, 2, 1), 192)); h != (api.Head{Shoff: 64, Shnum: 2, Shstrndx: 1}) || e != api.OK {
			t.Errorf("P10.1: flags %d: %+v, %v", flags, h, e)
		}
	}
}

// TestParseEachByte: P10.1: each byte of a head as each other one.
func TestParseEachByte(t *testing.T) {
	for i := range 64 {
		b := filled(plainHead(0x148, 5, 0x102, 0x101), 0x400+64*0x102)
		for x := range 256 {
			b[i] = byte(x)
			held(t, "one byte", b)
		}
	}
}

// TestParseShort: P10.1: fewer than 64 bytes, even where the others stand in the spare room behind them; the same of headers.
func TestParseShort(t *testing.T) {
	b := plainHead(0, 0, 1, 0)
	for n := range 64 {
		if h, e := Parse(b[:n]); h != (api.Head{}) || e != api.ErrHead {
			t.Errorf("P10.1: %d bytes: %+v, %v", n, h, e)
		}
		if h, e := Parse(b[:n:n]); h != (api.Head{}) || e != api.ErrHead {
			t.Errorf("P10.1: %d bytes without spare room: %+v, %v", n, h, e)
		}
	}
	if h, e := Parse(nil); h != (api.Head{}) || e != api.ErrHead {
		t.Errorf("P10.1: no bytes: %+v, %v", h, e)
	}
	b = filled(plainHead(64, 0, 2, 1), 192)
	for n := 64; n < 192; n++ {
		if h, e := Parse(b[:n]); h != (api.Head{}) || e != api.ErrHead {
			t.Errorf("P10.1: %d bytes of 192: %+v, %v", n, h, e)
		}
	}
}

// TestParseNumbers: P10.1: each number of headers with each that may have their names, and some past them.
func TestParseNumbers(t *testing.T) {
	b := filled(plainHead(64, 0, 0, 0), 64*420)
	for shnum := range 410 {
		binary.LittleEndian.PutUint16(b[60:], uint16(shnum))
		for _, shstrndx := range []int{0, 1, shnum - 2, shnum - 1, shnum, shnum + 1, shnum + 256, 399, 400, 32768 + shnum, 65535} {
			binary.LittleEndian.PutUint16(b[62:], uint16(shstrndx))
			if !held(t, "numbers of headers", b) {
				return
			}
		}
	}
}

// TestAnyHead: P10.1: any bytes, and heads with some bytes and bits changed, held against the chapter's words one by one.
func TestAnyHead(t *testing.T) {
	rnd := rand.New(rand.NewSource(10))
	good := 0
	for run := range 20000 {
		shnum := 1 + rnd.Intn(4)
		shoff := rnd.Intn(400) &^ (rnd.Intn(2) * 7)
		b := filled(plainHead(uint64(shoff), uint32(rnd.Intn(8)), uint16(shnum), uint16(rnd.Intn(shnum+1))), 64+rnd.Intn(600))
		for range rnd.Intn(3) {
			b[rnd.Intn(64)] ^= 1 << rnd.Intn(8)
		}
		if run%10 == 0 {
			rnd.Read(b[rnd.Intn(64):])
		}
		if !held(t, "any head", b) {
			return
		}
		if _, ok := plainParse(b); ok {
			good++
		}
	}
	if good < 500 {
		t.Errorf("P10.1: only %d heads were right ones", good)
	}
}

// TestKind: P10.2: what a file begins with, alone and with more behind it, cut short, with one byte changed, later on.
func TestKind(t *testing.T) {
	for kind, begin := range []string{"", "\x7fELF", "!<arch>\n"} {
		for _, behind := range []string{"", "x", "\x00", "\x7fELF", "!<arch>\n", string(make([]byte, 1<<20+5))} {
			want := kind
			if kind == 0 {
				want = map[string]int{"\x7fELF": 1, "!<arch>\n": 2}[behind]
			}
			if got := Kind([]byte(begin + behind)); got != want {
				t.Errorf("P10.2: Kind(%q and %.10q): %d, wanted %d", begin, behind, got, want)
			}
		}
		whole := []byte(begin + "rest")
		for n := range len(begin) {
			if got := Kind(whole[:n]); got != 0 {
				t.Errorf("P10.2: Kind(%q): %d", whole[:n], got)
			}
			for bit := range 8 {
				bad := bytes.Clone(whole)
				bad[n] ^= 1 << bit
				if got := Kind(bad); got != 0 {
					t.Errorf("P10.2: Kind(%q): %d", bad, got)
				}
			}
		}
	}
	for _, s := range []string{" \x7fELF", "\x00\x7fELF", "\x7f\x7fELF", "ELF\x7f", "\x7felf", "!<thin>\n", "!<arch>\r\n", "!<arch>\r", "!<ARCH>\n", "\n!<arch>\n"} {
		if got := Kind([]byte(s)); got != 0 {
			t.Errorf("P10.2: Kind(%q): %d", s, got)
		}
	}
	if Kind(nil) != 0 {
		t.Error("P10.2: Kind of no bytes")
	}
	// What Parse refuses may be an object's file all the same: Kind looks at its beginning alone.
	if Kind(plainHead(1, 99, 0, 0)) != 1 {
		t.Error("P10.2: Kind of a head that is wrong")
	}
}

// TestBackAgain: P10.3: each head that may be is read from its bytes as it was.
func TestBackAgain(t *testing.T) {
	rnd := rand.New(rand.NewSource(3))
	for range 3000 {
		shnum := 1 + rnd.Intn(400)
		h := api.Head{Shoff: uint64(8 * rnd.Intn(1+(api.MaxFile-64*shnum)/8)), Shnum: shnum, Shstrndx: rnd.Intn(shnum)}
		size := max(64, int(h.Shoff)+64*shnum)
		b := append(Bytes(h), make([]byte, size-64)...)
		if got, e := Parse(b); got != h || e != api.OK {
			t.Fatalf("P10.3: %+v in %d bytes: %+v, %v", h, size, got, e)
		}
		if again := Bytes(h); !bytes.Equal(again, b[:64]) {
			t.Fatalf("P10.3: %+v again: %x", h, again)
		}
	}
}

// TestOwnMemory: P10.1, P10.2: what is handed in isn't changed, the spare room behind it included; what Bytes answers is new each time.
func TestOwnMemory(t *testing.T) {
	whole := filled(plainHead(64, 7, 2, 1), 300)
	before := bytes.Clone(whole)
	for _, n := range []int{0, 4, 40, 64, 128, 192, 250, 300} {
		Parse(whole[:n])
		Kind(whole[:n])
		if !bytes.Equal(whole, before) {
			t.Fatalf("P10.1: %d bytes were changed", n)
		}
	}
	h := api.Head{Shoff: 64, Shnum: 2, Shstrndx: 1}
	first := Bytes(h)
	clear(first[:cap(first)])
	if second := Bytes(h); !bytes.Equal(second, plainHead(64, 0, 2, 1)) {
		t.Errorf("P10.1: Bytes again: %x", second)
	}
}
