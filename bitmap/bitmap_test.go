package bitmap_test

import (
	"math"
	"slices"
	"testing"

	"trunnion/bitmap"
)

const size = 256

// model tells for each number whether it must be an element.
type model [size]bool

// edges are numbers around all bounds of a number, of many and of end, of the
// words that a set may be made of, and the ends of int. Added to one another,
// or cut to 32, 16 or 8 bits, many of them wrap round to numbers that may be
// elements.
var edges = []int{math.MinInt, math.MinInt + 1, math.MinInt + 64, math.MinInt + 255, math.MinInt + 256, math.MinInt32, -1 << 16, -257, -256, -255, -65, -64, -63, -2, -1, 0, 1, 2, 63, 64, 65, 127, 128, 191, 192, 254, 255, 256, 257, 258, 319, 320, 512, 1 << 16, 1<<16 + 1, math.MaxInt32, 1 << 32, 1<<32 + 1, math.MaxInt - 256, math.MaxInt - 255, math.MaxInt - 64, math.MaxInt - 1, math.MaxInt}

// wrong are those edges that are not in the range least to most.
func wrong(least, most int) []int {
	var out []int
	for _, n := range edges {
		if n < least || n > most {
			out = append(out, n)
		}
	}
	return out
}

// made is a set with the elements of a model.
func made(t *testing.T, want model) *bitmap.Set {
	t.Helper()
	s := &bitmap.Set{}
	for n, in := range want {
		if in && !s.Put(n, true) {
			t.Fatalf("Put(%d, true) = false", n)
		}
	}
	return s
}

// with is the model with just these elements.
func with(ns ...int) model {
	var m model
	for _, n := range ns {
		m[n] = true
	}
	return m
}

// where is the model with those elements of which in holds.
func where(in func(n int) bool) model {
	var m model
	for n := range m {
		m[n] = in(n)
	}
	return m
}

// full is the model with all elements.
func full() model { return where(func(int) bool { return true }) }

// elements are those of a model, in increasing order.
func elements(m model) []int {
	var out []int
	for n, in := range m {
		if in {
			out = append(out, n)
		}
	}
	return out
}

// models are the empty and the full one, some with one element and some
// without one, around the bounds of words, runs, and mixtures.
func models() []model {
	out := []model{{}, full(), with(0, 1, 4), with(0, 1, 4, 63, 64, 255), with(0, 255)}
	for _, k := range []int{0, 1, 62, 63, 64, 65, 127, 128, 191, 192, 254, 255} {
		out = append(out, with(k), where(func(n int) bool { return n != k }), where(func(n int) bool { return n < k }), where(func(n int) bool { return n > k }))
	}
	for _, k := range []int{2, 3, 7, 16, 64, 100} {
		out = append(out, where(func(n int) bool { return n%k == 0 }), where(func(n int) bool { return n%k == k-1 }), where(func(n int) bool { return n/k%2 == 1 }))
	}
	return append(out, where(func(n int) bool { return n*n%11 < 2 }), where(func(n int) bool { return n*n*n%31 == 1 }))
}

// holds asks for all of a set, in all the ways that it may be asked.
func holds(t *testing.T, s *bitmap.Set, want model, after string, about ...any) {
	t.Helper()
	for n, in := range want {
		if s.Has(n) != in {
			t.Fatalf("after "+after+": Has(%d) = %v, want %v", append(about, n, !in, in)...)
		}
	}
	list := elements(want)
	if s.Len() != len(list) {
		t.Fatalf("after "+after+": Len() = %d, want %d", append(about, s.Len(), len(list))...)
	}
	if got := slices.Collect(s.All()); !slices.Equal(got, list) {
		t.Fatalf("after "+after+": All() tells %v, want %v", append(about, got, list)...)
	}
}

// free is how many numbers in a row, from each on, are no elements.
func free(m model) [size]int {
	var out [size]int
	for n := size - 1; n >= 0; n-- {
		if !m[n] {
			out[n] = 1
			if n+1 < size {
				out[n] += out[n+1]
			}
		}
	}
	return out
}

// gapOf is what Gap must answer, looked for at each number in turn.
func gapOf(m model, many, end int) int {
	if many < 1 || many > size || end < 0 || end > size {
		return -1
	}
	for n, run := range free(m) {
		if run >= many && n+many <= end {
			return n
		}
	}
	return -1
}

// P3.1: the zero Set is empty, however it is made.
func TestZeroSet(t *testing.T) {
	var s bitmap.Set
	holds(t, &s, model{}, "nothing")
	holds(t, &bitmap.Set{}, model{}, "nothing")
	holds(t, new(bitmap.Set), model{}, "nothing")
	if g := s.Gap(256, 256); g != 0 {
		t.Errorf("Gap(256, 256) of the zero Set = %d, want 0", g)
	}
}

// P3.1: each number, in and out of every model, and each of it twice.
func TestPut(t *testing.T) {
	for _, m := range models() {
		for n := range size {
			s, want := made(t, m), m
			for _, in := range []bool{true, true, false, false, true} {
				if !s.Put(n, in) {
					t.Errorf("Put(%d, %v) = false, want true", n, in)
				}
				want[n] = in
				holds(t, s, want, "Put(%d, %v)", n, in)
			}
		}
	}
}

// P3.1: the edges that are named, on the empty and on the full set.
func TestPutEdges(t *testing.T) {
	for _, m := range []model{{}, full()} {
		for _, n := range []int{-1, 0, 255, 256} {
			s, want := made(t, m), m
			there := n == 0 || n == 255
			for _, in := range []bool{true, true, false, false} {
				if is := s.Put(n, in); is != there {
					t.Errorf("Put(%d, %v) = %v, want %v", n, in, is, there)
				}
				if has := s.Has(n); has != (there && in) {
					t.Errorf("Has(%d) = %v, after Put(%d, %v)", n, has, n, in)
				}
				if there {
					want[n] = in
				}
				holds(t, s, want, "Put(%d, %v)", n, in)
			}
		}
	}
}

// P3.1, P0: numbers that can't be elements, of every model; nothing changes.
func TestNoNumber(t *testing.T) {
	for _, m := range models() {
		s := made(t, m)
		for _, n := range wrong(0, 255) {
			if s.Put(n, true) || s.Put(n, false) {
				t.Errorf("Put(%d) = true, want false", n)
			}
			if s.Has(n) {
				t.Errorf("Has(%d) = true, want false", n)
			}
			holds(t, s, m, "Put(%d)", n)
		}
	}
}

// P3.1: Len of every number of elements, from none to all and back, in an
// order that changes the word from one to the next.
func TestLen(t *testing.T) {
	s := &bitmap.Set{}
	for k := range size {
		if s.Len() != k {
			t.Errorf("Len() = %d, with %d elements", s.Len(), k)
		}
		s.Put(k*67%size, true)
	}
	for k := range size {
		if s.Len() != size-k {
			t.Errorf("Len() = %d, with %d elements", s.Len(), size-k)
		}
		s.Put(k*93%size, false)
	}
	if s.Len() != 0 {
		t.Errorf("Len() = %d, when all have been removed", s.Len())
	}
}

// P3.1, R4: two sets have nothing in common, and neither have a set and what
// was a copy of it.
func TestApart(t *testing.T) {
	a, b := &bitmap.Set{}, &bitmap.Set{}
	a.Put(7, true)
	holds(t, b, model{}, "Put to another set")
	b.Put(200, true)
	holds(t, a, with(7), "Put to another set")
	c := *a
	a.Put(8, true)
	c.Put(9, true)
	c.Put(7, false)
	holds(t, a, with(7, 8), "Put to a copy")
	holds(t, &c, with(9), "Put to what it was copied from")
	holds(t, b, with(200), "Put to other sets")
}

// P3.2: the elements of every model; of the empty one none at all, of the
// full one all 256.
func TestAll(t *testing.T) {
	for _, m := range models() {
		s := made(t, m)
		var got []int
		for n := range s.All() {
			got = append(got, n)
		}
		if want := elements(m); !slices.Equal(got, want) {
			t.Errorf("All() tells %v, want %v", got, want)
		}
		holds(t, s, m, "All")
	}
	for range made(t, model{}).All() {
		t.Error("All() of the empty set tells an element")
	}
	last := -1
	for n := range made(t, full()).All() {
		if n != last+1 {
			t.Errorf("All() of the full set tells %d after %d", n, last)
		}
		last = n
	}
	if last != 255 {
		t.Errorf("All() of the full set ends with %d", last)
	}
}

// P3.2: an iteration that is left off, after every number of elements, tells
// no more, and the next one begins anew.
func TestAllLeftOff(t *testing.T) {
	for _, m := range models() {
		s, list := made(t, m), elements(m)
		seq := s.All()
		for many := range list {
			var got []int
			seq(func(n int) bool {
				got = append(got, n)
				return len(got) <= many
			})
			if want := list[:many+1]; !slices.Equal(got, want) {
				t.Errorf("left off after %d elements: %v, want %v", many+1, got, want)
			}
		}
		if got := slices.Collect(seq); !slices.Equal(got, list) {
			t.Errorf("after iterations that were left off: %v, want %v", got, list)
		}
	}
}

// P3.2: the same iteration, taken again after each change of the set, tells
// the elements as they are by then.
func TestAllAgain(t *testing.T) {
	s, want := &bitmap.Set{}, model{}
	seq := s.All()
	for k := range 3 * size {
		n, in := k*67%size, k < size || k >= 2*size
		s.Put(n, in)
		want[n] = in
		for range 2 {
			if got := slices.Collect(seq); !slices.Equal(got, elements(want)) {
				t.Fatalf("after Put(%d, %v): %v, want %v", n, in, got, elements(want))
			}
		}
	}
}

// P3.2: two iterations of one set, one within the other, go their own ways.
func TestAllWithin(t *testing.T) {
	s := made(t, with(0, 64, 255))
	seq := s.All()
	var got []int
	for a := range seq {
		for b := range seq {
			got = append(got, a*1000+b)
		}
	}
	if want := []int{0, 64, 255, 64000, 64064, 64255, 255000, 255064, 255255}; !slices.Equal(got, want) {
		t.Errorf("one within the other: %v, want %v", got, want)
	}
}

// P3.2: an element is told as the iteration comes to it: one that is removed
// ahead of it isn't, one that is inserted ahead of it is, and what changes
// behind it makes no difference.
func TestAllChanged(t *testing.T) {
	s := made(t, with(5, 6, 10, 63, 64, 200))
	var got []int
	for n := range s.All() {
		got = append(got, n)
		switch n {
		case 5:
			s.Put(5, false)
			s.Put(4, true)
			s.Put(6, false)
		case 10:
			s.Put(11, true)
			s.Put(64, false)
			s.Put(10, false)
			s.Put(255, true)
		}
	}
	if want := []int{5, 10, 11, 63, 200, 255}; !slices.Equal(got, want) {
		t.Errorf("with changes on the way: %v, want %v", got, want)
	}
	holds(t, s, with(4, 11, 63, 200, 255), "changes on the way")
}

// P3.3: the document's example, gaps that end just at end, and ones that are
// one too short.
func TestGap(t *testing.T) {
	for _, c := range []struct {
		m               model
		many, end, want int
	}{
		{with(0, 1, 4), 2, 256, 2}, {with(0, 1, 4), 3, 256, 5}, {with(0, 1, 4), 3, 7, -1},
		{with(0, 1, 4), 3, 8, 5}, {with(0, 1, 4), 2, 4, 2}, {with(0, 1, 4), 2, 3, -1}, {with(0, 1, 4), 1, 3, 2}, {with(0, 1, 4), 1, 2, -1},
		{with(0, 1, 4), 251, 256, 5}, {with(0, 1, 4), 252, 256, -1}, {with(0, 1, 4), 250, 255, 5}, {with(0, 1, 4), 251, 255, -1},
		{with(10), 10, 256, 0}, {with(10), 11, 256, 11}, {with(10), 10, 10, 0}, {with(10), 10, 9, -1}, {with(10), 11, 22, 11}, {with(10), 11, 21, -1},
		{with(63, 66), 2, 256, 0}, {with(63, 66), 63, 256, 0}, {with(63, 66), 64, 256, 67}, {with(0, 62, 65), 62, 256, 66},
		{with(60, 70), 60, 256, 0}, {where(func(n int) bool { return n < 60 || n >= 70 }), 10, 256, 60}, {where(func(n int) bool { return n < 60 || n >= 70 }), 11, 256, -1},
		{where(func(n int) bool { return n < 60 || n >= 70 }), 10, 70, 60}, {where(func(n int) bool { return n < 60 || n >= 70 }), 10, 69, -1},
		{with(255), 255, 256, 0}, {with(255), 256, 256, -1}, {with(0), 255, 256, 1}, {with(0), 255, 255, -1}, {with(0), 256, 256, -1},
		{where(func(n int) bool { return n < 255 }), 1, 256, 255}, {where(func(n int) bool { return n < 255 }), 1, 255, -1}, {where(func(n int) bool { return n < 255 }), 2, 256, -1},
	} {
		s := made(t, c.m)
		if g := s.Gap(c.many, c.end); g != c.want {
			t.Errorf("elements %v: Gap(%d, %d) = %d, want %d", elements(c.m), c.many, c.end, g, c.want)
		}
		holds(t, s, c.m, "Gap(%d, %d)", c.many, c.end)
	}
}

// P3.3: the edges that are named, of the empty and of the full set.
func TestGapEdges(t *testing.T) {
	empty, all := made(t, model{}), made(t, full())
	for _, many := range []int{0, 1, 256, 257} {
		for _, end := range []int{-1, 0, 256, 257} {
			want := -1
			if end == 256 && (many == 1 || many == 256) {
				want = 0
			}
			if g := empty.Gap(many, end); g != want {
				t.Errorf("the empty set: Gap(%d, %d) = %d, want %d", many, end, g, want)
			}
			if g := all.Gap(many, end); g != -1 {
				t.Errorf("the full set: Gap(%d, %d) = %d, want -1", many, end, g)
			}
		}
	}
}

// P3.3: each many and each end, of every model, and one beyond them.
func TestGapEach(t *testing.T) {
	for _, m := range models() {
		s, runs := made(t, m), free(m)
		for many := 0; many <= size+1; many++ {
			// least is the first gap; the end only tells whether it will do.
			least := slices.IndexFunc(runs[:], func(run int) bool { return run >= many })
			for end := -1; end <= size+1; end++ {
				want := least
				if many < 1 || end < 0 || end > size || least+many > end {
					want = -1
				}
				if g := s.Gap(many, end); g != want {
					t.Fatalf("elements %v: Gap(%d, %d) = %d, want %d", elements(m), many, end, g, want)
				}
			}
		}
		holds(t, s, m, "Gap")
	}
}

// P3.3, P0: all pairs of edges, the ends of int among them, of every model.
func TestGapNone(t *testing.T) {
	for _, m := range models() {
		s := made(t, m)
		for _, many := range edges {
			for _, end := range edges {
				if g, want := s.Gap(many, end), gapOf(m, many, end); g != want {
					t.Errorf("elements %v: Gap(%d, %d) = %d, want %d", elements(m), many, end, g, want)
				}
			}
		}
		holds(t, s, m, "Gap")
	}
	// Of the empty set, no wrong number is made good by the other.
	empty := made(t, model{})
	for _, many := range wrong(1, 256) {
		for _, end := range edges {
			if g := empty.Gap(many, end); g != -1 {
				t.Errorf("Gap(%d, %d) = %d, want -1", many, end, g)
			}
		}
	}
	for _, end := range wrong(0, 256) {
		if g := empty.Gap(1, end); g != -1 {
			t.Errorf("Gap(1, %d) = %d, want -1", end, g)
		}
	}
}

// P3.4: a long mixture of calls, right and wrong ones, beside plain bools;
// after each of them the elements are those that were inserted and not yet
// removed, a gap has none of them, and no gap as long begins before it.
func TestElementStays(t *testing.T) {
	for seed := range 8 {
		s, want := &bitmap.Set{}, model{}
		state := uint64(seed)
		next := func(many int) int { // a fixed sequence, so that a failure comes again
			state = state*6364136223846793005 + 1442695040888963407
			return int(state >> 33 % uint64(many))
		}
		for range 2000 {
			n, in := next(size+8)-4, next(8) > seed
			if is := s.Put(n, in); is != (n >= 0 && n < size) {
				t.Fatalf("Put(%d, %v) = %v", n, in, is)
			}
			if n >= 0 && n < size {
				want[n] = in
			}
			many, end := 1+next(1+next(20)), next(size+1)
			if g := s.Gap(many, end); g != gapOf(want, many, end) {
				t.Fatalf("elements %v: Gap(%d, %d) = %d, want %d", elements(want), many, end, g, gapOf(want, many, end))
			}
			holds(t, s, want, "Put(%d, %v), Gap(%d, %d)", n, in, many, end)
		}
	}
}

// P3.4: a gap that is filled as it is found leaves the elements that were
// there, till there is none left; then as many numbers are elements as were
// found in gaps.
func TestGapsFilled(t *testing.T) {
	for _, m := range models() {
		for _, many := range []int{1, 2, 3, 10, 64} {
			s, want := made(t, m), m
			for {
				g := s.Gap(many, size)
				if g != gapOf(want, many, size) {
					t.Fatalf("elements %v: Gap(%d, 256) = %d, want %d", elements(want), many, g, gapOf(want, many, size))
				}
				if g < 0 {
					break
				}
				for n := g; n < g+many; n++ {
					if s.Has(n) {
						t.Fatalf("Gap(%d, 256) = %d, with the element %d", many, g, n)
					}
					s.Put(n, true)
					want[n] = true
				}
			}
			holds(t, s, want, "gaps of %d were filled", many)
		}
	}
}
