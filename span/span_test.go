package span

import (
	"math"
	"math/big"
	"slices"
	"testing"
)

const top = math.MaxUint64

// edges: small numbers, and those around each power of two, around 0 and around half of all as they wrap.
func edges() []uint64 {
	out := []uint64{0, 1, 2, 3, 4, 5, 6, 7, 8, 9, 4095, 4096, 4097}
	for _, k := range []int{31, 32, 33, 47, 62, 63} {
		p := uint64(1) << k
		out = append(out, p-2, p-1, p, p+1, p+2, -p-1, -p, -p+1)
	}
	for i := range uint64(6) {
		out = append(out, top-i)
	}
	slices.Sort(out)
	return slices.Compact(out)
}

func great(a uint64) *big.Int { return new(big.Int).SetUint64(a) }

// P2.1: powers of two: each of them, its neighbours, and 0.
func TestPow2(t *testing.T) {
	powers := map[uint64]bool{}
	for k := range 64 {
		powers[1<<k] = true
	}
	var asked []uint64
	for a := range uint64(5000) {
		asked = append(asked, a, -a)
	}
	for k := range 64 {
		for d := range uint64(5) {
			asked = append(asked, 1<<k-d, 1<<k+d, 1<<k|1<<d)
		}
	}
	for _, a := range asked {
		if Pow2(a) != powers[a] {
			t.Errorf("P2.1: Pow2(%d) is %v", a, Pow2(a))
		}
	}
}

// P2.1: the highest bit, by division down to 0.
func TestLog2(t *testing.T) {
	highest := func(a uint64) int {
		n := -1
		for ; a > 0; a /= 2 {
			n++
		}
		return n
	}
	for k := range 64 {
		for _, a := range []uint64{1 << k, 1<<k + 1<<k/2, 1<<k | 1, 1<<k - 1 + 1<<k} {
			if Log2(a) != k {
				t.Errorf("P2.1: Log2(%d) is %d, not %d", a, Log2(a), k)
			}
		}
	}
	for _, a := range edges() {
		if Log2(a) != highest(a) {
			t.Errorf("P2.1: Log2(%d) is %d", a, Log2(a))
		}
	}
	if Log2(0) != -1 {
		t.Errorf("P2.1: Log2(0) is %d, not -1", Log2(0))
	}
}

// P2.1: Up, by hand.
func TestUp(t *testing.T) {
	for _, c := range []struct {
		x, a, want uint64
		ok         bool
	}{
		{0, 1, 0, true}, {5, 1, 5, true}, {5, 4, 8, true}, {8, 4, 8, true}, {9, 4, 12, true},
		{0, 4096, 0, true}, {1, 4096, 4096, true}, {4096, 4096, 4096, true}, {4097, 4096, 8192, true},
		{0, 0, 0, false}, {5, 0, 0, false}, {5, 3, 0, false}, {6, 3, 0, false}, {6, 6, 0, false}, {5, top, 0, false}, {0, 12, 0, false},
		{top, 1, top, true}, {top, 2, 0, false}, {top - 1, 2, top - 1, true},
		{0, 1 << 63, 0, true}, {1, 1 << 63, 1 << 63, true}, {1 << 63, 1 << 63, 1 << 63, true}, {1<<63 + 1, 1 << 63, 0, false}, {top, 1 << 63, 0, false},
	} {
		if got, ok := Up(c.x, c.a); got != c.want || ok != c.ok {
			t.Errorf("P2.1: Up(%d, %d): %d, %v", c.x, c.a, got, ok)
		}
	}
}

// P2.1, P2.3: Up held against numbers that have no bound.
func TestUpUnbounded(t *testing.T) {
	one := big.NewInt(1)
	for _, x := range edges() {
		for k := range 64 {
			a := great(1 << k)
			up := new(big.Int).Add(great(x), a)
			up.Sub(up, one).Div(up, a).Mul(up, a)
			want, fits := uint64(0), up.IsUint64()
			if fits {
				want = up.Uint64()
			}
			if got, ok := Up(x, 1<<k); got != want || ok != fits {
				t.Errorf("P2.1: Up(%d, 2^%d): %d, %v", x, k, got, ok)
			}
		}
		for _, a := range edges() {
			if got, ok := Up(x, a); !Pow2(a) && (got != 0 || ok) {
				t.Errorf("P2.1: Up(%d, %d): %d, %v", x, a, got, ok)
			}
		}
	}
}

// P2.1, P2.3: sums of any number of numbers, held against sums that have no bound.
func TestAdd(t *testing.T) {
	lists := [][]uint64{
		nil, {}, {0}, {7}, {top}, {1, 2, 3, 4}, {top, 0, 0}, {0, 0, top}, {top, 1}, {1, top}, {top, 1, top}, {top, 1, 5}, {top, top, top},
		{1 << 63, 1 << 63}, {1 << 63, 1<<63 - 1}, {1 << 62, 1 << 62, 1 << 62, 1<<62 - 1}, {1 << 62, 1 << 62, 1 << 62, 1 << 62}, {1 << 62, 1 << 62, 1 << 62, 1 << 62, 9},
	}
	for _, a := range edges() {
		for _, b := range edges() {
			lists = append(lists, []uint64{a, b}, []uint64{a, b, 1}, []uint64{1, a, b, a})
		}
	}
	for _, l := range lists {
		sum := new(big.Int)
		for _, x := range l {
			sum.Add(sum, great(x))
		}
		want, fits := uint64(0), sum.IsUint64()
		if fits {
			want = sum.Uint64()
		}
		if got, ok := Add(l...); got != want || ok != fits {
			t.Errorf("P2.1: Add(%d): %d, %v", l, got, ok)
		}
	}
}

// P2.1: a list that is handed to Add stays as it is.
func TestAddChangesNothing(t *testing.T) {
	whole := []uint64{1, 2, 3, 4, 5}
	Add(whole[:3]...)
	if !slices.Equal(whole, []uint64{1, 2, 3, 4, 5}) {
		t.Errorf("P2.1: Add left %d", whole)
	}
}

// P2.2: Within and Overlap of small numbers, by going through the numbers.
func TestSmallRanges(t *testing.T) {
	for a := range uint64(7) {
		for n := range uint64(7) {
			for b := range uint64(7) {
				if Within(a, n, b) != (a+n <= b) {
					t.Errorf("P2.2: Within(%d, %d, %d) is %v", a, n, b, Within(a, n, b))
				}
				for m := range uint64(7) {
					shared := false
					for x := range uint64(14) {
						shared = shared || a <= x && x < a+n && b <= x && x < b+m
					}
					if Overlap(a, n, b, m) != shared {
						t.Errorf("P2.2: Overlap(%d, %d, %d, %d) is %v", a, n, b, m, Overlap(a, n, b, m))
					}
				}
			}
		}
	}
}

// P2.2, P2.3: Within and Overlap held against numbers that have no bound.
func TestRangesUnbounded(t *testing.T) {
	l := edges()
	for _, a := range l {
		for _, n := range l {
			end := new(big.Int).Add(great(a), great(n))
			for _, b := range l {
				if want := end.Cmp(great(b)) <= 0; Within(a, n, b) != want {
					t.Fatalf("P2.2: Within(%d, %d, %d) is not %v", a, n, b, want)
				}
			}
		}
	}
	for i, a := range l {
		for j := i % 3; j < len(l); j += 3 {
			for _, b := range l {
				for k := (i + j) % 3; k < len(l); k += 3 {
					if want := sharesUnbounded(a, l[j], b, l[k]); Overlap(a, l[j], b, l[k]) != want {
						t.Fatalf("P2.2: Overlap(%d, %d, %d, %d) is not %v", a, l[j], b, l[k], want)
					}
				}
			}
		}
	}
}

// sharesUnbounded: the later beginning is below the earlier end.
func sharesUnbounded(a, n, b, m uint64) bool {
	endA := new(big.Int).Add(great(a), great(n))
	endB := new(big.Int).Add(great(b), great(m))
	end := endA
	if endB.Cmp(endA) < 0 {
		end = endB
	}
	return great(max(a, b)).Cmp(end) < 0
}

// P2.2: edges by name: ranges of nothing, ranges that touch, ranges to 2^64 and past it.
func TestOverlapEdges(t *testing.T) {
	for _, c := range []struct {
		a, n, b, m uint64
		want       bool
	}{
		{5, 0, 5, 0, false}, {5, 0, 5, 1, false}, {5, 1, 5, 0, false}, {5, 1, 5, 1, true},
		{0, 10, 5, 0, false}, {5, 0, 0, 10, false}, {0, 5, 5, 5, false}, {5, 5, 0, 5, false}, {0, 6, 5, 5, true}, {5, 5, 0, 6, true},
		{top, 1, top, 1, true}, {top, 1, 0, top, false}, {top, 1, 1, top, true}, {0, top, top, 1, false},
		{top, 2, 0, 1, false}, {0, 1, top, 2, false}, {top - 1, top, 0, 5, false}, {1 << 63, 1 << 63, 0, 1 << 63, false}, {1 << 63, 1 << 63, 0, 1<<63 + 1, true},
	} {
		if Overlap(c.a, c.n, c.b, c.m) != c.want {
			t.Errorf("P2.2: Overlap(%d, %d, %d, %d) is not %v", c.a, c.n, c.b, c.m, c.want)
		}
	}
}
