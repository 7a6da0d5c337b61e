// Package le: Numbers in bytes, the lowest first: see doc/01-le.md.
package le

// U16 reads the number of 2 bytes from off on; false if they don't all lie within b.
func U16(b []byte, off uint64) (uint16, bool) {
	v, ok := get(b, off, 2)
	return uint16(v), ok
}

// U32 reads the number of 4 bytes from off on; false if they don't all lie within b.
func U32(b []byte, off uint64) (uint32, bool) {
	v, ok := get(b, off, 4)
	return uint32(v), ok
}

// U64 reads the number of 8 bytes from off on; false if they don't all lie within b.
func U64(b []byte, off uint64) (uint64, bool) {
	return get(b, off, 8)
}

// Cut copies n bytes from off on; false if they don't all lie within b.
func Cut(b []byte, off, n uint64) ([]byte, bool) {
	if !within(b, off, n) {
		return nil, false
	}
	return room(b[off:off+n], 0), true
}

// Put16 tells b and, behind it, each of v in 2 bytes.
func Put16(b []byte, v ...uint16) []byte {
	out := room(b, 2*len(v))
	for _, x := range v {
		out = put(out, uint64(x), 2)
	}
	return out
}

// Put32 tells b and, behind it, each of v in 4 bytes.
func Put32(b []byte, v ...uint32) []byte {
	out := room(b, 4*len(v))
	for _, x := range v {
		out = put(out, uint64(x), 4)
	}
	return out
}

// Put64 tells b and, behind it, each of v in 8 bytes.
func Put64(b []byte, v ...uint64) []byte {
	out := room(b, 8*len(v))
	for _, x := range v {
		out = put(out, x, 8)
	}
	return out
}

// Set tells a copy of b whose n bytes (1 to 8) from off on are v's lowest n; false if n is another, or they don't all lie within b.
func Set(b []byte, off uint64, v uint64, n int) ([]byte, bool) {
	// n is held against its bounds ahead of the conversion, which would make a great number of one below 0.
	if n < 1 || n > 8 || !within(b, off, uint64(n)) {
		return nil, false
	}
	out := room(b, 0)
	for i := range n {
		out[off+uint64(i)] = byte(v >> (8 * i))
	}
	return out, true
}

// within compares without the sum of off and n, which may wrap.
func within(b []byte, off, n uint64) bool {
	size := uint64(len(b))
	return off <= size && n <= size-off
}

func get(b []byte, off, n uint64) (uint64, bool) {
	if !within(b, off, n) {
		return 0, false
	}
	var v uint64
	for i, x := range b[off : off+n] {
		v |= uint64(x) << (8 * i)
	}
	return v, true
}

// room copies b always, so that what is put behind the copy never lands in the caller's spare room.
func room(b []byte, more int) []byte {
	out := make([]byte, len(b), len(b)+more)
	copy(out, b)
	return out
}

func put(b []byte, v uint64, n int) []byte {
	for i := range n {
		b = append(b, byte(v>>(8*i)))
	}
	return b
}
