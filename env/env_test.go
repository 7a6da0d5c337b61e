package env

import (
	"bytes"
	"fmt"
	"math"
	"math/rand"
	"slices"
	"testing"

	"dovetail/api"
)

func wrote(fd int64, s string) api.Event {
	return api.Event{Kind: api.EventWrite, Fd: fd, B: []byte(s)}
}

func read(fd int64, n int) api.Event {
	return api.Event{Kind: api.EventRead, Fd: fd, N: n}
}

func same(a, b []api.Event) bool {
	return slices.EqualFunc(a, b, func(x, y api.Event) bool {
		return x.Kind == y.Kind && x.Fd == y.Fd && x.N == y.N && bytes.Equal(x.B, y.B)
	})
}

// TestNew: P7.1: input waits, no events.
func TestNew(t *testing.T) {
	for _, in := range [][]byte{nil, {}, {0}, []byte("ab"), make([]byte, 1<<20)} {
		e := New(in)
		if e.Left() != len(in) || len(e.Trace()) != 0 {
			t.Errorf("P7.1: New of %d bytes: %d wait, %d events", len(in), e.Left(), len(e.Trace()))
		}
		for _, fd := range []int64{0, 1, -1, math.MinInt64, math.MaxInt64} {
			if len(e.Output(fd)) != 0 {
				t.Errorf("P7.1: New of %d bytes: output of %d", len(in), fd)
			}
		}
	}
}

// TestTake: P7.1: from none, over as many as wait, to the greatest number; below 0 none.
func TestTake(t *testing.T) {
	for _, c := range []struct {
		n    int
		want string
	}{
		{0, ""}, {1, "a"}, {2, "ab"}, {3, "abc"}, {4, "abc"}, {1 << 31, "abc"}, {1 << 32, "abc"}, {1<<32 + 1, "abc"}, {math.MaxInt, "abc"},
		{-1, ""}, {-3, ""}, {-4, ""}, {-1 << 32, ""}, {-1<<32 + 1, ""}, {math.MinInt, ""}, {math.MinInt + 1, ""},
	} {
		e := New([]byte("abc"))
		if got := string(e.Take(c.n)); got != c.want {
			t.Errorf("P7.1: Take(%d): %q, wanted %q", c.n, got, c.want)
		}
		if e.Left() != 3-len(c.want) {
			t.Errorf("P7.1: Take(%d): %d wait", c.n, e.Left())
		}
		if got := string(e.Take(math.MaxInt)); got != "abc"[len(c.want):] {
			t.Errorf("P7.1: behind Take(%d): %q", c.n, got)
		}
		if got := e.Take(c.n); len(got) != 0 || e.Left() != 0 {
			t.Errorf("P7.1: Take(%d) of nothing: %q, %d wait", c.n, got, e.Left())
		}
		if e = New(nil); len(e.Take(c.n)) != 0 || e.Left() != 0 {
			t.Errorf("P7.1: Take(%d) of no input", c.n)
		}
	}
}

// TestTakeNext: P7.1: each byte is told once; asking how many wait takes none.
func TestTakeNext(t *testing.T) {
	e := New([]byte("a\x00b\xffcd"))
	for _, c := range []struct {
		n    int
		want string
		left int
	}{{1, "a", 5}, {-1, "", 5}, {2, "\x00b", 3}, {0, "", 3}, {1, "\xff", 2}, {3, "cd", 0}, {1, "", 0}, {math.MaxInt, "", 0}} {
		if got := string(e.Take(c.n)); got != c.want || e.Left() != c.left || e.Left() != c.left {
			t.Errorf("P7.1: Take(%d): %q, %d wait, wanted %q, %d", c.n, got, e.Left(), c.want, c.left)
		}
	}
}

// TestNote: P7.1: any number of events in one call, in order, none left out and none changed, whatever they are.
func TestNote(t *testing.T) {
	all := []api.Event{
		wrote(1, "one"), read(0, 3), wrote(1, "one"), wrote(2, ""), wrote(-1, "\x00\xff"), read(-7, 0),
		{}, {Kind: api.EventRead, Fd: 1, B: []byte("kept"), N: -5}, {Kind: api.EventWrite, Fd: math.MaxInt64, B: []byte("w"), N: 9},
		{Kind: 7, Fd: math.MinInt64, B: []byte("x"), N: math.MinInt}, {Kind: -1, Fd: 1, B: []byte("y"), N: math.MaxInt},
	}
	for n := range len(all) + 1 {
		e := New([]byte("waits"))
		e.Note()
		e.Note(all[:n]...)
		e.Note(nil...)
		if !same(e.Trace(), all[:n]) {
			t.Errorf("P7.1: Note of %d events: %v", n, e.Trace())
		}
		for i, x := range all[n:] {
			e.Note(x)
			if !same(e.Trace(), all[:n+i+1]) {
				t.Errorf("P7.1: Note of event %d behind %d: %v", n+i, n, e.Trace())
			}
		}
		if !same(e.Trace(), all) || e.Left() != 5 || string(e.Take(9)) != "waits" {
			t.Errorf("P7.1: Trace again, or the input, behind %d events", n)
		}
	}
}

// TestOutput: P7.1: of writes alone, of that file alone, in order.
func TestOutput(t *testing.T) {
	e := New([]byte("in"))
	e.Note(wrote(1, "a"), wrote(2, "B"), api.Event{Kind: api.EventRead, Fd: 1, B: []byte("r"), N: 1}, wrote(1, ""), wrote(1, "bc"))
	e.Note(wrote(-1, "m"), wrote(1<<32+1, "far"), wrote(math.MinInt64, "least"), wrote(math.MaxInt64, "most"), api.Event{Kind: 2, Fd: 1, B: []byte("k")}, api.Event{Kind: -1, Fd: 1, B: []byte("k")})
	e.Note(wrote(2, "\x00\xff"), wrote(0, "z"), wrote(1, "a"))
	e.Take(1)
	for fd, want := range map[int64]string{1: "abca", 2: "B\x00\xff", 0: "z", -1: "m", 1<<32 + 1: "far", 1 << 32: "", 3: "", -2: "", math.MinInt64: "least", math.MaxInt64: "most", math.MaxUint32: ""} {
		if got := string(e.Output(fd)); got != want {
			t.Errorf("P7.1: Output(%d): %q, wanted %q", fd, got, want)
		}
		if got := string(e.Output(fd)); got != want {
			t.Errorf("P7.1: Output(%d) again: %q", fd, got)
		}
	}
}

// TestOwnMemory: P7.1: what is handed in is neither changed nor kept, the spare room behind it included; what is answered is new memory.
func TestOwnMemory(t *testing.T) {
	in := []byte("input, spare")
	e := New(in[:5])
	first := e.Take(2)
	first = append(first, "zzzzz"...)
	clear(first)
	clear(in)
	if got := string(e.Take(2)); got != "pu" {
		t.Errorf("P7.1: behind changes of the input, of what was taken: %q", got)
	}
	b := []byte("bytes, spare")
	ev := []api.Event{wrote(1, ""), read(3, 4), wrote(9, "spare")}
	ev[0].B = b[:5]
	e.Note(ev[:2]...)
	e.Note(wrote(1, "more"))
	e.Take(1)
	if string(b) != "bytes, spare" || !same(ev, []api.Event{wrote(1, "bytes"), read(3, 4), wrote(9, "spare")}) {
		t.Error("P7.1: Note changed what it was given")
	}
	clear(b)
	clear(ev)
	want := []api.Event{wrote(1, "bytes"), read(3, 4), wrote(1, "more")}
	told := e.Trace()
	if !same(told, want) {
		t.Errorf("P7.1: Note kept what it was given: %v", told)
	}
	_ = append(told[0].B, "zzzz"...)
	clear(told[0].B)
	clear(told)
	out := e.Output(1)
	_ = append(out, "zzzz"...)
	clear(out)
	if !same(e.Trace(), want) || string(e.Output(1)) != "bytesmore" {
		t.Errorf("P7.1: behind changes of what was told: %v", e.Trace())
	}
	early := e.Trace()
	_ = append(early, wrote(5, "zzzz"))
	e.Note(wrote(1, "last"))
	if !same(early, want) || !same(e.Trace(), append(slices.Clone(want), wrote(1, "last"))) {
		t.Error("P7.1: what was told goes on with the environment")
	}
}

// TestApart: P7.1: one environment has nothing of another.
func TestApart(t *testing.T) {
	in := []byte("ab")
	a, b := New(in), New(in)
	a.Take(2)
	a.Note(wrote(1, "a"))
	if b.Left() != 2 || string(b.Take(2)) != "ab" || len(b.Trace()) != 0 || len(b.Output(1)) != 0 {
		t.Error("P7.1: two environments are one")
	}
}

// TestTakenIsInput: P7.2: by any runs of calls, what is taken, one behind another, is the input.
func TestTakenIsInput(t *testing.T) {
	for seed := range int64(200) {
		rnd := rand.New(rand.NewSource(seed))
		in := make([]byte, rnd.Intn(300))
		rnd.Read(in)
		e := New(in)
		var taken []byte
		for range 40 {
			n := rnd.Intn(30) - 5
			got := e.Take(n)
			if len(got) != min(max(n, 0), len(in)-len(taken)) {
				t.Fatalf("P7.1: run %d: Take(%d): %d bytes of %d", seed, n, len(got), len(in)-len(taken))
			}
			taken = append(taken, got...)
			if e.Left() != len(in)-len(taken) {
				t.Fatalf("P7.1: run %d: %d wait, %d are taken of %d", seed, e.Left(), len(taken), len(in))
			}
			if !bytes.Equal(taken, in[:len(taken)]) {
				t.Fatalf("P7.2: run %d: what is taken isn't the input's beginning", seed)
			}
			e.Note(read(0, len(got)), wrote(1, string(got)))
		}
		taken = append(taken, e.Take(len(in))...)
		if !bytes.Equal(taken, in) {
			t.Fatalf("P7.2: run %d: what is taken isn't the input", seed)
		}
	}
}

// TestAnyRun: P7.1: runs of any notes, held against plain lists.
func TestAnyRun(t *testing.T) {
	for seed := range int64(100) {
		rnd := rand.New(rand.NewSource(seed))
		e := New(nil)
		var all []api.Event
		out := map[int64]string{}
		for range 60 {
			some := make([]api.Event, rnd.Intn(4))
			for i := range some {
				fd, text := int64(rnd.Intn(4)-1), fmt.Sprint(rnd.Intn(1000))
				some[i] = api.Event{Kind: rnd.Intn(3), Fd: fd, B: []byte(text), N: rnd.Intn(9)}
				if some[i].Kind == api.EventWrite {
					out[fd] += text
				}
			}
			all = append(all, some...)
			e.Note(some...)
			for fd := int64(-2); fd < 5; fd++ {
				if got := string(e.Output(fd)); got != out[fd] {
					t.Fatalf("P7.1: run %d: Output(%d): %q, wanted %q", seed, fd, got, out[fd])
				}
			}
		}
		if !same(e.Trace(), all) {
			t.Fatalf("P7.1: run %d: Trace isn't what was noted", seed)
		}
	}
}
