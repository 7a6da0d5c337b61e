package mem

import (
	"bytes"
	"fmt"
	"math"
	"math/rand"
	"testing"

	"dovetail/api"
)

const (
	rw   = api.PermR | api.PermW
	rx   = api.PermR | api.PermX
	most = 4 * api.MaxZero
	last = math.MaxUint64
)

// row: n bytes, none of them 0, no two pages of them alike.
func row(n int) []byte {
	b := make([]byte, n)
	for i := range b {
		b[i] = byte(1 + (i+i/api.Page)%255)
	}
	return b
}

// mapped: a memory with six pages from 0x10000 on: of R, RW, RW, W, X, RX.
func mapped(t *testing.T) *Mem {
	t.Helper()
	m := New()
	for i, perm := range []int{api.PermR, rw, rw, api.PermW, api.PermX, rx} {
		addr := 0x10000 + uint64(i)*api.Page
		if e := m.Map(addr, api.Page, perm, row(api.Page)); e != api.OK {
			t.Fatalf("P6.1: Map(%#x): %v", addr, e)
		}
	}
	return m
}

// TestNew: P6.1: what nothing was mapped in.
func TestNew(t *testing.T) {
	m := New()
	if m.Size() != 0 || m.Perm(0) != 0 || m.Perm(last) != 0 || m.Perm(api.Top) != 0 {
		t.Error("P6.1: a new memory has pages")
	}
	if _, ok := m.Load(0, 1); ok {
		t.Error("P6.2: a new memory may be read")
	}
}

// TestMapWrong: P6.1: each rule of Map, at its edge and past it; what is refused leaves nothing.
func TestMapWrong(t *testing.T) {
	for _, c := range []struct {
		addr, size uint64
		perm, data int
		want       api.Errno
	}{
		{0, 1, rw, 0, api.OK}, {1, 1, rw, 0, api.ErrSpace}, {4095, 1, rw, 0, api.ErrSpace}, {4096, 1, rw, 0, api.OK}, {4097, 1, rw, 0, api.ErrSpace}, {2048, 4096, rw, 0, api.ErrSpace},
		{0, 0, rw, 0, api.ErrSpace}, {4096, 0, rw, 0, api.ErrSpace}, {api.Top, 0, rw, 0, api.ErrSpace},
		{api.Top - 4096, 1, rw, 0, api.OK}, {api.Top - 4096, 4096, rw, 4096, api.OK}, {api.Top - 4096, 4097, rw, 0, api.ErrSpace}, {api.Top - 8192, 8192, rw, 0, api.OK}, {api.Top - 8192, 8193, rw, 0, api.ErrSpace},
		{api.Top, 1, rw, 0, api.ErrSpace}, {api.Top + 4096, 1, rw, 0, api.ErrSpace}, {1 << 63, 1, rw, 0, api.ErrSpace}, {1<<64 - 4096, 1, rw, 0, api.ErrSpace}, {1<<64 - 4096, 4096, rw, 0, api.ErrSpace}, {1<<64 - 4096, 4097, rw, 0, api.ErrSpace}, {1<<64 - 4096, 8192, rw, 0, api.ErrSpace},
		{0, last, rw, 0, api.ErrSpace}, {4096, last, rw, 0, api.ErrSpace}, {4096, last - 4095, rw, 0, api.ErrSpace}, {4096, last - 4094, rw, 0, api.ErrSpace}, {0, last - 4094, rw, 0, api.ErrSpace}, {0, api.Top, rw, 0, api.ErrSpace}, {0, 1 << 63, rw, 0, api.ErrSpace},
		{0, 1, rw, 1, api.OK}, {0, 1, rw, 2, api.ErrSpace}, {0, 4096, rw, 4096, api.OK}, {0, 4096, rw, 4097, api.ErrSpace}, {0, 4095, rw, 4096, api.ErrSpace}, {0, 0, rw, 1, api.ErrSpace}, {0, 10000, rw, 10000, api.OK}, {0, 10000, rw, 10001, api.ErrSpace},
		{0, most, rw, 0, api.OK}, {0, most - 1, rw, 0, api.OK}, {0, most - 4096, rw, 0, api.OK}, {0, most + 1, rw, 0, api.ErrSpace}, {0, most + 4096, rw, 0, api.ErrSpace}, {api.Top - most, most, rw, 0, api.OK},
	} {
		m := New()
		if e := m.Map(c.addr, c.size, c.perm, make([]byte, c.data)); e != c.want {
			t.Errorf("P6.1: Map(%#x, %#x, %d, %d bytes): %v, wanted %v", c.addr, c.size, c.perm, c.data, e, c.want)
		}
		pages := uint64(0)
		if c.want == api.OK {
			pages = (c.size + 4095) / 4096
		}
		if m.Size() != pages*4096 {
			t.Errorf("P6.1: Map(%#x, %#x): Size is %#x", c.addr, c.size, m.Size())
		}
		if pages == 0 && m.Perm(c.addr) != 0 {
			t.Errorf("P6.1: Map(%#x, %#x): refused, yet its page is there", c.addr, c.size)
		}
	}
}

// TestMapPerms: P6.1, P6.3: which perms may be.
func TestMapPerms(t *testing.T) {
	good := map[int]bool{api.PermR: true, api.PermW: true, api.PermX: true, rw: true, rx: true}
	asked := []int{math.MinInt, math.MaxInt, 1 << 32, 1<<32 + api.PermR, 1<<62 + api.PermX, -1 << 32, -1<<32 + rw, 256, 256 + rw, 1<<8 + api.PermR}
	for p := -20; p <= 40; p++ {
		asked = append(asked, p)
	}
	for _, p := range asked {
		m := New()
		e := m.Map(0x2000, 5000, p, []byte{1})
		if (e == api.OK) != good[p] || !good[p] && e != api.ErrSpace {
			t.Errorf("P6.1: perm %d: %v", p, e)
		}
		want := 0
		if good[p] {
			want = p
		}
		for _, addr := range []uint64{0x2000, 0x2001, 0x2fff, 0x3000, 0x3387, 0x3388, 0x3fff} {
			if m.Perm(addr) != want {
				t.Errorf("P6.1: perm %d: Perm(%#x) is %d", p, addr, m.Perm(addr))
			}
		}
		for _, addr := range []uint64{0, 0x1fff, 0x4000, 0x2000 + api.Top, 1<<63 + 0x2000, 1<<52 + 2, 1<<32 + 0x2000} {
			if m.Perm(addr) != 0 {
				t.Errorf("P6.1: perm %d: Perm(%#x) is %d", p, addr, m.Perm(addr))
			}
		}
	}
}

// TestMapOver: P6.1: pages that are mapped already, wherever in the range; neighbours are none of them, and what is refused leaves all as it was.
func TestMapOver(t *testing.T) {
	for _, c := range []struct {
		addr, size uint64
		want       api.Errno
	}{
		{0x10000, 1, api.ErrSpace}, {0x11000, 4096, api.ErrSpace}, {0x12000, 1, api.ErrSpace}, {0xf000, 4096, api.OK}, {0xf000, 4097, api.ErrSpace}, {0xe000, 8192, api.OK}, {0xe000, 8193, api.ErrSpace},
		{0x13000, 1, api.OK}, {0x12000, 8192, api.ErrSpace}, {0, 0x100000, api.ErrSpace}, {0, 0x10000, api.OK}, {0, 0x10001, api.ErrSpace}, {0x20000, 1, api.OK}, {0x14000, 0x1000, api.OK},
	} {
		m := New()
		// Two pages and a byte: the third page is mapped whole.
		if e := m.Map(0x10000, 8193, rw, row(8193)); e != api.OK {
			t.Fatalf("P6.1: %v", e)
		}
		data := bytes.Repeat([]byte{0xee}, int(c.size))
		if e := m.Map(c.addr, c.size, api.PermR, data); e != c.want {
			t.Errorf("P6.1: Map(%#x, %#x) over another: %v, wanted %v", c.addr, c.size, e, c.want)
		}
		size := uint64(0x3000)
		if c.want == api.OK {
			size += (c.size + 4095) / 4096 * 4096
		}
		if m.Size() != size {
			t.Errorf("P6.1: Map(%#x, %#x) over another: Size is %#x", c.addr, c.size, m.Size())
		}
		if b, ok := m.Read(0x10000, 8193); !ok || !bytes.Equal(b, row(8193)) || m.Perm(0x10000) != rw || m.Perm(0x12fff) != rw {
			t.Errorf("P6.1: Map(%#x, %#x) over another: the other is changed", c.addr, c.size)
		}
		if c.want != api.OK && m.Perm(0xf000)|m.Perm(0xe000)|m.Perm(0x13000)|m.Perm(0) != 0 {
			t.Errorf("P6.1: Map(%#x, %#x) over another: a part of it is there", c.addr, c.size)
		}
	}
}

// TestMapFull: P6.1: all that is mapped, page by whole page, is at most 4 MaxZero bytes.
func TestMapFull(t *testing.T) {
	m := New()
	for i := range uint64(3) {
		m.Map(i*0x10000, 1, api.PermR, nil)
	}
	if m.Size() != 3*4096 {
		t.Errorf("P6.1: three pages of a byte: Size is %d", m.Size())
	}
	const base = 1 << 40
	if e := m.Map(base, most-3*4096+1, rw, nil); e != api.ErrSpace || m.Size() != 3*4096 || m.Perm(base) != 0 {
		t.Errorf("P6.1: a byte past the bound: %v", e)
	}
	if e := m.Map(base, most-4*4096+1, rw, nil); e != api.OK || m.Size() != most {
		t.Errorf("P6.1: up to the bound: %v, %d", e, m.Size())
	}
	if e := m.Map(0x40000, 1, rw, nil); e != api.ErrSpace || m.Size() != most || m.Perm(0x40000) != 0 {
		t.Errorf("P6.1: a page past the bound: %v", e)
	}
	if e := m.Map(0x40000, last, rw, nil); e != api.ErrSpace {
		t.Errorf("P6.1: all past the bound: %v", e)
	}
	// Every page of a great stretch has noughts and may be written, the last one too.
	end := uint64(base + most - 3*4096)
	if !m.Store(end-8, 8, 7) || m.Store(end-7, 8, 7) || m.Size() != most {
		t.Error("P6.1: the end of a great stretch")
	}
	for addr := uint64(base); addr < end-4096; addr += 4096 {
		if v, ok := m.Load(addr+4088, 8); v != 0 || !ok {
			t.Fatalf("P6.1: Load(%#x): %d, %v", addr, v, ok)
		}
	}
}

// TestMapData: P6.1: data first, noughts behind to the page's end, nothing further.
func TestMapData(t *testing.T) {
	sizes := []int{0, 1, 2, 4095, 4096, 4097, 8191, 8192, 8193, 12288}
	for _, n := range sizes {
		for _, size := range sizes {
			if size == 0 || n > size {
				continue
			}
			m := New()
			if e := m.Map(0x7000, uint64(size), api.PermR, row(n)); e != api.OK {
				t.Fatalf("P6.1: %d bytes of %d: %v", n, size, e)
			}
			whole := (size + 4095) / 4096 * 4096
			want := append(row(n), make([]byte, whole-n)...)
			if b, ok := m.Read(0x7000, uint64(whole)); !ok || !bytes.Equal(b, want) {
				t.Errorf("P6.1: %d bytes of %d: other bytes", n, size)
			}
			if _, ok := m.Read(0x7000, uint64(whole)+1); ok || m.Perm(0x7000+uint64(whole)) != 0 || m.Perm(0x6fff) != 0 {
				t.Errorf("P6.1: %d bytes of %d: a page too many", n, size)
			}
		}
	}
}

// TestMapExample: the chapter's example.
func TestMapExample(t *testing.T) {
	m := New()
	if e := m.Map(0, 1, api.PermR, nil); e != api.OK || m.Size() != 4096 {
		t.Errorf("P6.1: Map(0, 1, PermR, nil): %v, %d bytes", e, m.Size())
	}
	if b, ok := m.Read(0, 4096); !ok || !bytes.Equal(b, make([]byte, 4096)) {
		t.Error("P6.1: Map(0, 1, PermR, nil): no page of noughts")
	}
}

// TestLoad: P6.2: numbers of each width, at and across pages' edges.
func TestLoad(t *testing.T) {
	m := New()
	m.Map(0x1000, 20, rw, []byte{0xf1, 0xf2, 0xf3, 0xf4, 0xf5, 0xf6, 0xf7, 0xf8, 0x09})
	m.Map(0x2000, 20, api.PermR, []byte{0xaa, 0xbb, 0xcc, 0xdd, 0xee, 0xff, 0x77})
	m.Map(0x3000, 4, rx, []byte{0x11})
	m.Map(0x4000, 4, api.PermX, []byte{0x22})
	m.Map(0x5000, 4, api.PermW, []byte{0x33})
	m.Map(api.Top-4096, 4096, rw, row(4096))
	for _, c := range []struct {
		addr uint64
		n    int
		want uint64
		ok   bool
	}{
		{0x1000, 1, 0xf1, true}, {0x1000, 2, 0xf2f1, true}, {0x1000, 4, 0xf4f3f2f1, true}, {0x1000, 8, 0xf8f7f6f5f4f3f2f1, true},
		{0x1001, 1, 0xf2, true}, {0x1001, 2, 0xf3f2, true}, {0x1003, 4, 0xf7f6f5f4, true}, {0x1001, 8, 0x09f8f7f6f5f4f3f2, true}, {0x1008, 8, 9, true}, {0x1009, 8, 0, true}, {0x1ff8, 8, 0, true},
		{0x1fff, 1, 0, true}, {0x1fff, 2, 0xaa00, true}, {0x1ffd, 4, 0xaa000000, true}, {0x1fff, 4, 0xccbbaa00, true}, {0x1ff9, 8, 0xaa << 56, true}, {0x1fff, 8, 0x77ffeeddccbbaa00, true}, {0x2ffc, 8, 0x11 << 32, true}, {0x3ff8, 8, 0, true},
		{0x3fff, 1, 0, true}, {0x3fff, 2, 0, false}, {0x3ffd, 4, 0, false}, {0x3ff9, 8, 0, false}, {0x4000, 1, 0, false}, {0x4000, 8, 0, false}, {0x4fff, 2, 0, false}, {0x5000, 1, 0, false}, {0x5ffc, 4, 0, false},
		{0xfff, 1, 0, false}, {0xfff, 2, 0, false}, {0xffe, 4, 0, false}, {0xff9, 8, 0, false}, {0, 1, 0, false}, {0x6000, 1, 0, false},
		{api.Top - 1, 1, uint64(row(4096)[4095]), true}, {api.Top - 1, 2, 0, false}, {api.Top - 7, 8, 0, false}, {api.Top, 1, 0, false}, {api.Top, 8, 0, false}, {api.Top + 0x1000, 1, 0, false}, {1<<63 + 0x1000, 4, 0, false},
		{last, 1, 0, false}, {last, 2, 0, false}, {last - 6, 8, 0, false}, {last - 7, 8, 0, false},
		{0x1000, 0, 0, false}, {0x1000, 3, 0, false}, {0x1000, 5, 0, false}, {0x1000, 6, 0, false}, {0x1000, 7, 0, false}, {0x1000, 9, 0, false}, {0x1000, 16, 0, false}, {0x1000, -1, 0, false}, {0x1000, -8, 0, false}, {0x1000, math.MinInt, 0, false}, {0x1000, math.MaxInt, 0, false}, {0x1000, 1<<32 + 1, 0, false}, {0, 0, 0, false},
	} {
		if v, ok := m.Load(c.addr, c.n); v != c.want || ok != c.ok {
			t.Errorf("P6.2: Load(%#x, %d): %#x, %v, wanted %#x, %v", c.addr, c.n, v, ok, c.want, c.ok)
		}
	}
}

// TestWrapped: P6.2: addresses don't wrap: the pages at both ends of what a wrapped range would have are there.
func TestWrapped(t *testing.T) {
	m := New()
	m.Map(0, 4096, rw, row(4096))
	m.Map(api.Top-4096, 4096, rw, row(4096))
	m.Map(4096, 4096, api.PermX, row(4096))
	for _, addr := range []uint64{last, last - 1, last - 3, api.Top - 1, api.Top} {
		for _, n := range []int{2, 4, 8} {
			_, loaded := m.Load(addr, n)
			_, read := m.Read(addr, uint64(n))
			if ends := addr + uint64(n) - 1; (ends < addr || ends >= api.Top) && (loaded || read || m.Store(addr, n, 0) || m.Write(addr, make([]byte, n))) {
				t.Errorf("P6.2: %d bytes at %#x", n, addr)
			}
		}
		if _, ok := m.Fetch(addr); ok {
			t.Errorf("P6.2: Fetch(%#x)", addr)
		}
	}
	if b, ok := m.Read(0, 4096); !ok || !bytes.Equal(b, row(4096)) {
		t.Error("P6.2: what isn't written is changed")
	}
}

// TestStore: P6.2: v's lowest bytes are there then, no others are touched; else nothing is changed.
func TestStore(t *testing.T) {
	const v = 0xa8a7a6a5a4a3a2a1
	for _, c := range []struct {
		addr uint64
		n    int
		ok   bool
	}{
		{0x11000, 1, true}, {0x11000, 2, true}, {0x11000, 4, true}, {0x11000, 8, true}, {0x11003, 1, true}, {0x11003, 2, true}, {0x11005, 4, true}, {0x11007, 8, true},
		{0x11fff, 1, true}, {0x11fff, 2, true}, {0x11ffd, 4, true}, {0x11fff, 4, true}, {0x11ff9, 8, true}, {0x11fff, 8, true}, {0x12ffc, 8, true}, {0x13000, 8, true}, {0x13ff8, 8, true},
		{0x13ff9, 8, false}, {0x13fff, 2, false}, {0x14000, 1, false}, {0x15000, 4, false}, {0x15ffc, 8, false}, {0x10000, 1, false}, {0x10fff, 1, false}, {0x10fff, 2, false}, {0x10ffd, 4, false}, {0x10ff9, 8, false}, {0xffff, 1, false}, {0x16000, 1, false}, {api.Top, 8, false}, {last, 8, false}, {last, 1, false}, {api.Top + 0x11000, 1, false},
		{0x11000, 0, false}, {0x11000, 3, false}, {0x11000, 5, false}, {0x11000, 6, false}, {0x11000, 7, false}, {0x11000, 9, false}, {0x11000, 16, false}, {0x11000, -1, false}, {0x11000, -4, false}, {0x11000, math.MinInt, false}, {0x11000, math.MaxInt, false}, {0x11000, 1<<32 + 1, false},
	} {
		m := mapped(t)
		want := everything(m)
		if c.ok {
			for i := range c.n {
				want[c.addr-0x10000+uint64(i)] = byte(0xa1 + i)
			}
		}
		if ok := m.Store(c.addr, c.n, v); ok != c.ok {
			t.Errorf("P6.2: Store(%#x, %d): %v", c.addr, c.n, ok)
		}
		if !bytes.Equal(everything(m), want) {
			t.Errorf("P6.2: Store(%#x, %d): other bytes", c.addr, c.n)
		}
	}
}

// everything: all bytes of a memory as mapped makes it, whatever may be done with them: by a memory that has its pages and may be read all over.
func everything(m *Mem) []byte {
	seen := New()
	for i, p := range m.pages {
		seen.pages[i] = page{perm: api.PermR, data: p.data}
	}
	b, _ := seen.Read(0x10000, seen.Size())
	return b
}

// TestStoreNought: P6.2: pages that have had noughts only, stored to and loaded again, each for itself.
func TestStoreNought(t *testing.T) {
	m := New()
	m.Map(0, 0x8000, rw, nil)
	if !m.Store(0x1ffc, 8, 0x1122334455667788) || !m.Store(0x5000, 1, 0x1ff) {
		t.Error("P6.2: Store on noughts")
	}
	want := make([]byte, 0x8000)
	copy(want[0x1ffc:], []byte{0x88, 0x77, 0x66, 0x55, 0x44, 0x33, 0x22, 0x11})
	want[0x5000] = 0xff
	if b, ok := m.Read(0, 0x8000); !ok || !bytes.Equal(b, want) || m.Size() != 0x8000 {
		t.Error("P6.2: Store on noughts: other bytes")
	}
}

// TestFetch: P6.2: 4 bytes, where all may be run, at any address.
func TestFetch(t *testing.T) {
	m := mapped(t)
	m.Map(0x20000, 4096, api.PermX, []byte{0x13, 0x05, 0xa0, 0x82, 0x7f})
	m.Map(0x21000, 4096, rx, []byte{0x93, 0x80})
	m.Map(api.Top-4096, 4096, rx, nil)
	for _, c := range []struct {
		addr uint64
		want uint32
		ok   bool
	}{
		{0x20000, 0x82a00513, true}, {0x20001, 0x7f82a005, true}, {0x20004, 0x7f, true}, {0x20ffc, 0, true}, {0x20ffe, 0x80930000, true}, {0x20fff, 0x809300, true}, {0x21000, 0x8093, true}, {0x21ffc, 0, true}, {0x21ffd, 0, false}, {0x21fff, 0, false}, {0x22000, 0, false}, {0x1fffe, 0, false}, {0x1ffff, 0, false},
		{0x10000, 0, false}, {0x11000, 0, false}, {0x13000, 0, false}, {0x13ffe, 0, false}, {0x14000, 0x04030201, true}, {0x15ffc, 0x100f0e0d, true}, {0x15ffd, 0, false},
		{api.Top - 4, 0, true}, {api.Top - 3, 0, false}, {api.Top, 0, false}, {last, 0, false}, {last - 2, 0, false}, {last - 3, 0, false}, {api.Top + 0x20000, 0, false},
	} {
		if w, ok := m.Fetch(c.addr); w != c.want || ok != c.ok {
			t.Errorf("P6.2: Fetch(%#x): %#x, %v, wanted %#x, %v", c.addr, w, ok, c.want, c.ok)
		}
	}
}

// TestRead: P6.2: n bytes where all may be read; none of them wherever; MaxIO at most.
func TestRead(t *testing.T) {
	m := mapped(t)
	m.Map(0x100000, 0x20000, api.PermR, row(0x20000))
	for _, c := range []struct {
		addr, n uint64
		ok      bool
	}{
		{0, 0, true}, {last, 0, true}, {api.Top, 0, true}, {0x14000, 0, true}, {0x13000, 0, true}, {0xffff, 0, true},
		{0x10000, 1, true}, {0x10000, 0x3000, true}, {0x10000, 0x3001, false}, {0x10fff, 2, true}, {0x12fff, 1, true}, {0x12fff, 2, false}, {0x13000, 1, false}, {0x14000, 1, false}, {0x14fff, 2, false}, {0x15000, 4096, true}, {0x15000, 4097, false}, {0xffff, 2, false}, {0xffff, 1, false},
		{0x100000, api.MaxIO, true}, {0x100000, api.MaxIO - 1, true}, {0x100000, api.MaxIO + 1, false}, {0x100fff, api.MaxIO, true}, {0x110000, api.MaxIO, true}, {0x110001, api.MaxIO, false}, {0x110001, api.MaxIO - 1, true},
		{0x100000, 1 << 32, false}, {0x100000, 1<<32 + 1, false}, {0x100000, 1 << 63, false}, {0x100000, last, false}, {last, 1, false}, {last, 2, false}, {last, last, false}, {0, last, false}, {api.Top, 1, false}, {api.Top + 0x10000, 1, false}, {1, last, false},
	} {
		b, ok := m.Read(c.addr, c.n)
		if ok != c.ok || !ok && len(b) != 0 || ok && uint64(len(b)) != c.n {
			t.Errorf("P6.2: Read(%#x, %d): %d bytes, %v", c.addr, c.n, len(b), ok)
			continue
		}
		for i, x := range b {
			if v, ok := m.Load(c.addr+uint64(i), 1); !ok || v != uint64(x) {
				t.Fatalf("P6.2: Read(%#x, %d): byte %d is %d", c.addr, c.n, i, x)
			}
		}
	}
	if b, ok := m.Read(0x100ffe, 5000); !ok || !bytes.Equal(b, row(0x20000)[0xffe:0xffe+5000]) {
		t.Error("P6.2: Read across pages: other bytes")
	}
}

// TestWrite: P6.2: all or nothing; none of them wherever; MaxIO at most.
func TestWrite(t *testing.T) {
	for _, c := range []struct {
		addr uint64
		n    int
		ok   bool
	}{
		{0, 0, true}, {last, 0, true}, {api.Top, 0, true}, {0x10000, 0, true}, {0x14000, 0, true},
		{0x11000, 1, true}, {0x11000, 0x3000, true}, {0x11001, 0x2fff, true}, {0x11000, 0x3001, false}, {0x11fff, 2, true}, {0x12ffe, 4, true}, {0x13fff, 1, true}, {0x13fff, 2, false}, {0x13000, 4096, true},
		{0x10fff, 1, false}, {0x10fff, 2, false}, {0x10000, 0x4000, false}, {0x14000, 1, false}, {0x15000, 1, false}, {0x15fff, 2, false}, {0x16000, 1, false}, {0xffff, 1, false}, {last, 1, false}, {last, 2, false}, {last - 0x11, 0x11013, false}, {api.Top, 1, false}, {api.Top + 0x11000, 1, false}, {0x11000, api.MaxIO, false}, {0x11000, api.MaxIO + 1, false},
	} {
		m := mapped(t)
		want := everything(m)
		b := bytes.Repeat([]byte{0xf7, 0xe6, 0xd5}, c.n/3+1)[:c.n]
		if c.ok && c.n > 0 {
			copy(want[c.addr-0x10000:], b)
		}
		if ok := m.Write(c.addr, b); ok != c.ok {
			t.Errorf("P6.2: Write(%#x, %d bytes): %v", c.addr, c.n, ok)
		}
		if !bytes.Equal(everything(m), want) {
			t.Errorf("P6.2: Write(%#x, %d bytes): other bytes", c.addr, c.n)
		}
	}
	if m := mapped(t); !m.Write(0, nil) || !m.Write(last, []byte{}) {
		t.Error("P6.2: Write of nothing")
	}
}

// TestWriteMost: P6.2: MaxIO bytes are written, one more are not, and change nothing.
func TestWriteMost(t *testing.T) {
	m := New()
	m.Map(0, 1<<18, rw, nil)
	if m.Write(5, row(api.MaxIO+1)) || m.Write(0, make([]byte, 1<<18)) {
		t.Error("P6.2: Write of more than MaxIO bytes")
	}
	if v, ok := m.Load(5, 8); v != 0 || !ok {
		t.Error("P6.2: Write of more than MaxIO bytes changed something")
	}
	if !m.Write(5, row(api.MaxIO)) {
		t.Error("P6.2: Write of MaxIO bytes")
	}
	if b, ok := m.Read(5, api.MaxIO); !ok || !bytes.Equal(b, row(api.MaxIO)) {
		t.Error("P6.2: Write of MaxIO bytes: other bytes")
	}
	if v, ok := m.Load(5+api.MaxIO, 8); v != 0 || !ok {
		t.Error("P6.2: Write of MaxIO bytes went on")
	}
}

// TestOwnMemory: P6.1, P6.2: what is handed in is neither changed nor kept, spare room included; what is answered is new memory; one memory has nothing of another.
func TestOwnMemory(t *testing.T) {
	for _, n := range []int{5, 4096, 9000} {
		m, other := New(), New()
		whole := row(n + 4096)
		m.Map(0x1000, uint64(n), rw, whole[:n])
		other.Map(0x1000, uint64(n), rw, whole[:n])
		m.Store(0x1001, 8, 0)
		if !bytes.Equal(whole, row(n+4096)) {
			t.Errorf("P6.1: %d bytes: Map's data is changed", n)
		}
		clear(whole)
		if b, ok := other.Read(0x1000, uint64(n)); !ok || !bytes.Equal(b, row(n)) {
			t.Errorf("P6.1: %d bytes: Map's data is kept", n)
		}
		whole = row(n + 4096)
		m.Write(0x1000, whole[:n])
		m.Store(0x1000, 8, 0)
		if !bytes.Equal(whole, row(n+4096)) {
			t.Errorf("P6.2: %d bytes: Write's bytes are changed", n)
		}
		m.Write(0x1000, whole[:n])
		clear(whole)
		b, _ := m.Read(0x1000, uint64(n))
		if !bytes.Equal(b, row(n)) {
			t.Errorf("P6.2: %d bytes: Write's bytes are kept", n)
		}
		clear(b)
		again, _ := m.Read(0x1000, uint64(n))
		if !bytes.Equal(again, row(n)) {
			t.Errorf("P6.2: %d bytes: what Read answered is the memory's own", n)
		}
		m.Store(0x1000, 1, 0xcc)
		if again[0] != row(n)[0] {
			t.Errorf("P6.2: %d bytes: what Read answered is changed by Store", n)
		}
	}
}

// TestNotWrittenAndRun: P6.3: whatever was asked for, in whatever order, no page takes a store, or a write, and a fetch.
func TestNotWrittenAndRun(t *testing.T) {
	for first := range 9 {
		for then := range 9 {
			m := New()
			m.Map(0x1000, 4096, first, nil)
			m.Map(0x1000, 4096, then, nil)
			m.Map(0, 0x3000, then, nil)
			for addr := uint64(0); addr < 0x3000; addr += 0x1000 {
				_, run := m.Fetch(addr)
				if run && (m.Store(addr, 1, 1) || m.Write(addr, []byte{1})) {
					t.Errorf("P6.3: perms %d, %d: the page %#x is written and run", first, then, addr)
				}
				if p := m.Perm(addr); run != (p&api.PermX != 0) || m.Store(addr, 4, 1) != (p&api.PermW != 0) {
					t.Errorf("P6.3: perms %d, %d: the page %#x has perm %d", first, then, addr, p)
				}
			}
		}
	}
}

// model: a memory byte by byte.
type model map[uint64]cell

type cell struct {
	perm int
	b    byte
}

func (o model) may(addr uint64, n, perm int) bool {
	for i := range uint64(n) {
		if addr+i < addr || o[addr+i].perm&perm == 0 {
			return false
		}
	}
	return true
}

func (o model) get(addr uint64, n int) []byte {
	b := make([]byte, n)
	for i := range b {
		b[i] = o[addr+uint64(i)].b
	}
	return b
}

func (o model) put(addr uint64, b []byte) {
	for i, x := range b {
		o[addr+uint64(i)] = cell{o[addr+uint64(i)].perm, x}
	}
}

func (o model) mapPages(addr uint64, size, perm int, data []byte) bool {
	sum := perm == api.PermR || perm == api.PermW || perm == api.PermX || perm == rw || perm == rx
	if addr%4096 != 0 || size == 0 || addr >= api.Top || addr+uint64(size) > api.Top || len(data) > size || !sum {
		return false
	}
	end := addr + uint64((size+4095)/4096*4096)
	for a := addr; a < end; a += 4096 {
		if o[a].perm != 0 {
			return false
		}
	}
	for a := addr; a < end; a++ {
		o[a] = cell{perm, 0}
	}
	o.put(addr, data)
	return true
}

// TestAnyRun: P6.1, P6.2, P6.3: runs of any calls, held against a memory that is kept byte by byte.
func TestAnyRun(t *testing.T) {
	for seed := range int64(40) {
		rnd := rand.New(rand.NewSource(seed))
		m, o := New(), model{}
		for step := range 400 {
			if told, want := anyCall(rnd, m, o); told != want {
				t.Fatalf("P6.1, P6.2: run %d, step %d: %s, wanted %s", seed, step, told, want)
			}
		}
		if m.Size() != uint64(len(o)) {
			t.Fatalf("P6.1: run %d: Size is %d, wanted %d", seed, m.Size(), len(o))
		}
	}
}

// anyAddr: most of them near a page's edge, at the bottom, at Top or at 2^64.
func anyAddr(rnd *rand.Rand) uint64 {
	base := []uint64{0, 0, 0, api.Top - 0x6000, api.Top - 0x6000, last - 0x5fff}[rnd.Intn(6)]
	addr := base + uint64(rnd.Intn(8))*4096
	switch rnd.Intn(3) {
	case 0:
		return addr
	case 1:
		return addr + 4096 - uint64(rnd.Intn(9))
	}
	return addr + uint64(rnd.Intn(4096))
}

// anyCall does one call with m and with o; it tells both answers as text.
func anyCall(rnd *rand.Rand, m *Mem, o model) (told, want string) {
	addr := anyAddr(rnd)
	n := []int{1, 2, 4, 8, 1, 2, 4, 8, 3, 0}[rnd.Intn(10)]
	width := n != 3 && n != 0
	switch rnd.Intn(8) {
	case 0:
		size, perm := rnd.Intn(9000)*rnd.Intn(2)+rnd.Intn(3), rnd.Intn(9)
		data := row(min(rnd.Intn(9000), size+rnd.Intn(2)))
		if rnd.Intn(4) > 0 {
			addr -= addr % 4096
		}
		ok := o.mapPages(addr, size, perm, data)
		return fmt.Sprint("Map ", m.Map(addr, uint64(size), perm, data) == api.OK), fmt.Sprint("Map ", ok)
	case 1:
		v, ok := m.Load(addr, n)
		may, number := width && o.may(addr, n, api.PermR), uint64(0)
		for i, x := range o.get(addr, n) {
			if may {
				number += uint64(x) << (8 * i)
			}
		}
		return fmt.Sprint("Load ", addr, n, v, ok), fmt.Sprint("Load ", addr, n, number, may)
	case 2, 3:
		v, may := rnd.Uint64(), width && o.may(addr, n, api.PermW)
		for i := range n {
			if may {
				o.put(addr+uint64(i), []byte{byte(v >> (8 * i))})
			}
		}
		return fmt.Sprint("Store ", addr, n, m.Store(addr, n, v)), fmt.Sprint("Store ", addr, n, may)
	case 4:
		w, ok := m.Fetch(addr)
		may, number := o.may(addr, 4, api.PermX), uint32(0)
		for i, x := range o.get(addr, 4) {
			if may {
				number += uint32(x) << (8 * i)
			}
		}
		return fmt.Sprint("Fetch ", addr, w, ok), fmt.Sprint("Fetch ", addr, number, may)
	case 5:
		n = rnd.Intn(6000)
		b, ok := m.Read(addr, uint64(n))
		may := o.may(addr, n, api.PermR)
		var all []byte
		if may {
			all = o.get(addr, n)
		}
		return fmt.Sprint("Read ", addr, n, bytes.Equal(b, all), ok), fmt.Sprint("Read ", addr, n, true, may)
	case 6:
		b := make([]byte, rnd.Intn(6000))
		rnd.Read(b)
		may := o.may(addr, len(b), api.PermW)
		if may {
			o.put(addr, b)
		}
		return fmt.Sprint("Write ", addr, len(b), m.Write(addr, b)), fmt.Sprint("Write ", addr, len(b), may)
	}
	return fmt.Sprint("Perm ", addr, m.Perm(addr)), fmt.Sprint("Perm ", addr, o[addr].perm)
}
