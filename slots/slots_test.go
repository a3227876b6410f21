package slots_test

import (
	"fmt"
	"math"
	"slices"
	"testing"

	"trunnion/api"
	"trunnion/slots"
)

// edges are numbers around the bounds of a part, of a table of 10 ticks and of
// one of 256, and the ends of int. Cut to 32, 16, 9, 8, 4 or 3 bits, many of them
// are right ones.
var edges = []int{math.MinInt, math.MinInt + 1, math.MinInt + 9, math.MinInt32, -1<<32 + 1, -65535, -512, -256, -255, -10, -9, -8, -7, -2, -1, 0, 1, 2, 3, 4, 5, 6, 7, 8, 9, 10, 11, 15, 16, 17, 127, 128, 254, 255, 256, 257, 258, 264, 511, 512, 513, 65536, 65537, math.MaxInt32, 1 << 32, 1<<32 + 1, 1<<32 + 8, math.MaxInt - 256, math.MaxInt - 9, math.MaxInt - 1, math.MaxInt}

// slot is a short form of a window.
func slot(part, from, many int) api.Slot {
	return api.Slot{Part: part, From: from, Len: many}
}

// model is all that a table must know: its windows, in the order in which they
// were placed, told tick by tick.
type model struct {
	ticks   int
	windows []api.Slot
}

// owner is which window a tick belongs to; -1 if to none.
func (w *model) owner(tick int) int {
	for i, s := range w.windows {
		for n := 0; n < s.Len; n++ {
			if s.From+n == tick {
				return i
			}
		}
	}
	return -1
}

// at is what At must answer.
func (w *model) at(tick int) int {
	if i := w.owner(tick); i >= 0 {
		return w.windows[i].Part
	}
	return -1
}

// place is what Place must answer. It goes from tick to tick, and so ends when
// it has left the table.
func (w *model) place(part, from, many int) api.Errno {
	if part < 0 || part > 7 || many < 1 || from < 0 || from >= w.ticks {
		return api.ErrArg
	}
	free := true
	for n := 0; n < many; n++ {
		if from+n >= w.ticks {
			return api.ErrArg
		}
		free = free && w.owner(from+n) < 0
	}
	if !free {
		return api.ErrGap
	}
	w.windows = append(w.windows, slot(part, from, many))
	return api.OK
}

// insert is what Insert must answer: the first position at which Place does it.
func (w *model) insert(part, many int) (int, api.Errno) {
	if part < 0 || part > 7 || many < 1 {
		return 0, api.ErrArg
	}
	for from := 0; from < w.ticks; from++ {
		if w.place(part, from, many) == api.OK {
			return from, api.OK
		}
	}
	return 0, api.ErrGap
}

// move is what Move must answer.
func (w *model) move(part, from, to int) api.Errno {
	for i, s := range w.windows {
		if s.Part != part || s.From != from {
			continue
		}
		rest := model{ticks: w.ticks, windows: slices.Concat(w.windows[:i], w.windows[i+1:])}
		e := rest.place(part, to, s.Len)
		if e == api.OK {
			w.windows = rest.windows
		}
		return e
	}
	return api.ErrNone
}

// remove is what Remove must answer.
func (w *model) remove(part int) int {
	var rest []api.Slot
	for _, s := range w.windows {
		if s.Part != part {
			rest = append(rest, s)
		}
	}
	many := len(w.windows) - len(rest)
	w.windows = rest
	return many
}

// slots is what Slots must answer: the windows as one comes upon them from tick
// 0 on.
func (w *model) slots() []api.Slot {
	var out []api.Slot
	for tick := 0; tick < w.ticks; tick++ {
		if i := w.owner(tick); i >= 0 && w.windows[i].From == tick {
			out = append(out, w.windows[i])
		}
	}
	return out
}

// copied is a model of what Copy returns.
func (w *model) copied() *model {
	return &model{ticks: w.ticks, windows: slices.Clone(w.windows)}
}

// bench is a table, and what it must know.
type bench struct {
	*testing.T
	s *slots.Table
	w *model
}

// start is a bench of so many ticks, with the windows placed in that order.
func start(t *testing.T, ticks int, windows ...api.Slot) *bench {
	t.Helper()
	s, e := slots.New(ticks)
	if e != api.OK || s == nil {
		t.Fatalf("New(%d): %v, %v", ticks, s, e)
	}
	b := &bench{T: t, s: s, w: &model{ticks: ticks}}
	for _, w := range windows {
		b.place(w.Part, w.From, w.Len)
	}
	b.is(windows)
	return b
}

// copied is a bench of the table's copy.
func (b *bench) copied() *bench {
	return &bench{T: b.T, s: b.s.Copy(), w: b.w.copied()}
}

// same tells whether all that the table answers is as it must be.
func (b *bench) same(what string) {
	b.Helper()
	if n := b.s.Ticks(); n != b.w.ticks {
		b.Fatalf("%s: Ticks: %d, not %d", what, n, b.w.ticks)
	}
	if got, want := b.s.Slots(), b.w.slots(); !slices.Equal(got, want) {
		b.Fatalf("%s: Slots: %v, not %v", what, got, want)
	}
	for tick := -1; tick <= b.w.ticks; tick++ {
		if got, want := b.s.At(tick), b.w.at(tick); got != want {
			b.Fatalf("%s: At(%d): %d, not %d", what, tick, got, want)
		}
	}
}

// is tells whether the windows are these, whatever their order here.
func (b *bench) is(windows []api.Slot) {
	b.Helper()
	want := slices.Clone(windows)
	slices.SortFunc(want, func(v, w api.Slot) int { return v.From - w.From })
	if got := b.s.Slots(); !slices.Equal(got, want) {
		b.Fatalf("windows: %v, not %v", got, want)
	}
}

// met tells whether a call, and then the whole table, answered as it must.
func (b *bench) met(call string, got, want any) {
	b.Helper()
	if got != want {
		b.Fatalf("%s: %v, not %v", call, got, want)
	}
	b.same(call)
}

func (b *bench) place(part, from, many int) api.Errno {
	b.Helper()
	call := fmt.Sprintf("Place(%d, %d, %d) of %v", part, from, many, b.w.windows)
	want := b.w.place(part, from, many)
	b.met(call, b.s.Place(part, from, many), want)
	return want
}

func (b *bench) insert(part, many int) (int, api.Errno) {
	b.Helper()
	call := fmt.Sprintf("Insert(%d, %d) of %v", part, many, b.w.windows)
	from, want := b.w.insert(part, many)
	got, e := b.s.Insert(part, many)
	b.met(call, [2]int{got, int(e)}, [2]int{from, int(want)})
	return from, want
}

func (b *bench) move(part, from, to int) api.Errno {
	b.Helper()
	call := fmt.Sprintf("Move(%d, %d, %d) of %v", part, from, to, b.w.windows)
	want := b.w.move(part, from, to)
	b.met(call, b.s.Move(part, from, to), want)
	return want
}

func (b *bench) remove(part int) int {
	b.Helper()
	call := fmt.Sprintf("Remove(%d) of %v", part, b.w.windows)
	want := b.w.remove(part)
	b.met(call, b.s.Remove(part), want)
	return want
}

// P15.2, P15.3: the document's examples, and its sixth example of the whole.
func TestExamples(t *testing.T) {
	s, e := slots.New(10)
	if e != api.OK {
		t.Fatal(e)
	}
	if from, e := s.Insert(1, 4); from != 0 || e != api.OK {
		t.Error(from, e)
	}
	if from, e := s.Insert(2, 4); from != 4 || e != api.OK {
		t.Error(from, e)
	}
	if from, e := s.Insert(3, 3); from != 0 || e != api.ErrGap {
		t.Error(from, e)
	}
	if n := s.Remove(1); n != 1 {
		t.Error(n)
	}
	if from, e := s.Insert(3, 5); from != 0 || e != api.ErrGap {
		t.Error(from, e)
	}
	if from, e := s.Insert(3, 2); from != 0 || e != api.OK {
		t.Error(from, e)
	}
	if l := s.Slots(); !slices.Equal(l, []api.Slot{slot(3, 0, 2), slot(2, 4, 4)}) {
		t.Error(l)
	}
}

// P15.1: what README.md shows of it.
func TestReadme(t *testing.T) {
	s, _ := slots.New(10)
	from, e := s.Insert(1, 4)
	if from != 0 || e != api.OK {
		t.Error(from, e)
	}
	if e = s.Place(2, 6, 3); e != api.OK {
		t.Error(e)
	}
	if from, e = s.Insert(3, 3); from != 0 || e != api.ErrGap {
		t.Error(from, e)
	}
	if e = s.Move(2, 6, 5); e != api.OK {
		t.Error(e)
	}
	if e = s.Move(2, 5, 8); e != api.ErrArg {
		t.Error(e)
	}
	if part := s.At(7); part != 2 {
		t.Error(part)
	}
	if part := s.At(4); part != -1 {
		t.Error(part)
	}
	o := s.Copy()
	if n := o.Remove(1); n != 1 {
		t.Error(n)
	}
	if l := s.Slots(); !slices.Equal(l, []api.Slot{slot(1, 0, 4), slot(2, 5, 3)}) {
		t.Error(l)
	}
}

// P15.1: New of every number near its bounds, and of the ends of int: of less
// than 0, of 0, 1, 256 and 257 among them.
func TestNew(t *testing.T) {
	numbers := slices.Clone(edges)
	for n := -300; n <= 600; n++ {
		numbers = append(numbers, n)
	}
	for _, n := range numbers {
		s, e := slots.New(n)
		if n < 1 || n > 256 {
			if s != nil || e != api.ErrArg {
				t.Errorf("New(%d): %v, %v", n, s, e)
			}
			continue
		}
		if s == nil || e != api.OK {
			t.Fatalf("New(%d): %v, %v", n, s, e)
		}
		b := &bench{T: t, s: s, w: &model{ticks: n}}
		b.same("New")
		if l := s.Slots(); len(l) != 0 {
			t.Errorf("New(%d) has windows: %v", n, l)
		}
	}
}

// P15.1: two tables are each for themselves.
func TestTwo(t *testing.T) {
	a, b := start(t, 10), start(t, 10)
	a.place(1, 2, 3)
	b.same("the other one")
	b.place(2, 0, 10)
	a.same("the first one")
}

// P15.1: Slots of a table without windows, with one, and of windows placed in
// every order.
func TestSlots(t *testing.T) {
	if l := start(t, 10).s.Slots(); len(l) != 0 {
		t.Error(l)
	}
	start(t, 10, slot(7, 3, 2)).is([]api.Slot{slot(7, 3, 2)})
	windows := []api.Slot{slot(5, 0, 1), slot(0, 1, 2), slot(7, 4, 3), slot(0, 8, 1), slot(2, 9, 1)}
	var permute func(n int)
	permute = func(n int) {
		if n == len(windows) {
			start(t, 10, windows...)
			return
		}
		for i := n; i < len(windows); i++ {
			windows[n], windows[i] = windows[i], windows[n]
			permute(n + 1)
			windows[n], windows[i] = windows[i], windows[n]
		}
	}
	permute(0)
}

// P15.1: 256 windows of one tick, placed from the last one to the first one.
func TestManyWindows(t *testing.T) {
	s, e := slots.New(256)
	if e != api.OK {
		t.Fatal(e)
	}
	for from := 255; from >= 0; from-- {
		if e := s.Place(from%8, from, 1); e != api.OK {
			t.Fatal(from, e)
		}
	}
	l := s.Slots()
	if len(l) != 256 {
		t.Fatal(len(l))
	}
	for from, w := range l {
		if w != slot(from%8, from, 1) || s.At(from) != from%8 {
			t.Fatal(from, w, s.At(from))
		}
	}
	if _, e := s.Insert(0, 1); e != api.ErrGap {
		t.Error(e)
	}
	for part := range 8 {
		if n := s.Remove(part); n != 32 {
			t.Error(part, n)
		}
	}
	if from, e := s.Insert(0, 256); from != 0 || e != api.OK {
		t.Error(from, e)
	}
}

// P15.1, R3: what Slots returned is the caller's: the table keeps its windows
// when it is written to, and it stays as it is when the table changes.
func TestSlotsAreNew(t *testing.T) {
	b := start(t, 10, slot(1, 0, 2), slot(2, 4, 2), slot(3, 7, 3))
	got := b.s.Slots()
	for i := range got {
		got[i] = slot(6, 9, 9)
	}
	_ = append(got[:1], slot(5, 5, 5))
	b.same("after a write")
	before := b.s.Slots()
	kept := slices.Clone(before)
	b.move(1, 0, 2)
	b.remove(2)
	b.place(4, 5, 1)
	b.remove(3)
	if !slices.Equal(before, kept) {
		t.Error("changed by the table:", before)
	}
	one, two := b.s.Slots(), b.s.Slots()
	one[0] = slot(0, 0, 0)
	if two[0] == one[0] {
		t.Error("two results share")
	}
}

// P15.1: a Copy changed, and its first one changed, each without the other, by
// each of the calls.
func TestCopy(t *testing.T) {
	windows := []api.Slot{slot(1, 1, 2), slot(2, 4, 1), slot(1, 6, 2)}
	calls := []func(b *bench){
		func(b *bench) { b.insert(3, 1) },
		func(b *bench) { b.insert(3, 2) },
		func(b *bench) { b.place(3, 9, 1) },
		func(b *bench) { b.place(3, 3, 1) },
		func(b *bench) { b.move(1, 1, 0) },
		func(b *bench) { b.move(1, 1, 8) },
		func(b *bench) { b.move(1, 6, 4) },
		func(b *bench) { b.remove(1) },
		func(b *bench) { b.remove(2) },
	}
	for _, call := range calls {
		for _, then := range calls {
			first := start(t, 10, windows...)
			second := first.copied()
			third := second.copied()
			second.same("a copy")
			call(second)
			first.same("after its copy has changed")
			third.same("after its first one has changed")
			then(first)
			second.same("after its first one has changed")
			third.same("after the first one of all has changed")
			call(third)
			first.same("after the last copy has changed")
			second.same("after the last copy has changed")
		}
	}
	empty := start(t, 256)
	second := empty.copied()
	second.place(1, 0, 1)
	empty.place(2, 0, 256)
	second.same("after the empty one has changed")
	// A list with room behind it must not be shared either.
	first := start(t, 10, slot(1, 0, 1), slot(1, 1, 1), slot(1, 2, 1), slot(1, 3, 1), slot(1, 4, 1))
	first.remove(1)
	second = first.copied()
	second.place(2, 0, 1)
	first.place(3, 5, 1)
	second.same("after the emptied one has changed")
}

// P15.2, R1: Place with every number of edges for each argument, on a table
// without windows, and on one with some.
func TestPlaceOfEdges(t *testing.T) {
	for _, ticks := range []int{1, 10, 256} {
		for _, part := range edges {
			for _, from := range edges {
				for _, many := range edges {
					s, _ := slots.New(ticks)
					w := &model{ticks: ticks}
					if got, want := s.Place(part, from, many), w.place(part, from, many); got != want {
						t.Fatalf("Place(%d, %d, %d) of %d ticks: %v, not %v", part, from, many, ticks, got, want)
					}
					if got, want := s.Slots(), w.slots(); !slices.Equal(got, want) {
						t.Fatalf("Place(%d, %d, %d) of %d ticks: %v, not %v", part, from, many, ticks, got, want)
					}
				}
			}
		}
	}
	for _, part := range []int{-1, 0, 7, 8} {
		for _, from := range edges {
			for _, many := range edges {
				start(t, 10, slot(1, 2, 2), slot(0, 7, 1)).place(part, from, many)
			}
		}
	}
}

// P15.2: the edges of Place that have names.
func TestPlace(t *testing.T) {
	cases := []struct {
		part, from, many int
		e                api.Errno
	}{
		{-1, 0, 1, api.ErrArg}, {0, 0, 1, api.OK}, {7, 0, 1, api.OK}, {8, 0, 1, api.ErrArg},
		{1, 0, math.MinInt, api.ErrArg}, {1, 0, -1, api.ErrArg}, {1, 0, 0, api.ErrArg},
		{1, 0, 10, api.OK}, {1, 0, 11, api.ErrArg}, {1, 0, math.MaxInt, api.ErrArg},
		{1, -1, 1, api.ErrArg}, {1, -1, 2, api.ErrArg}, {1, math.MinInt, 1, api.ErrArg},
		{1, 9, 1, api.OK}, {1, 9, 2, api.ErrArg}, {1, 10, 1, api.ErrArg}, {1, 10, 0, api.ErrArg}, {1, 11, 1, api.ErrArg},
		{1, 1, 9, api.OK}, {1, 1, 10, api.ErrArg},
		{1, math.MaxInt, 1, api.ErrArg}, {1, math.MaxInt, math.MaxInt, api.ErrArg}, {1, 1, math.MaxInt, api.ErrArg}, {1, 9, math.MaxInt - 8, api.ErrArg},
		{1, 2, math.MaxInt, api.ErrArg}, {1, 9, math.MaxInt, api.ErrArg}, {1, math.MinInt, math.MinInt, api.ErrArg}, {1, math.MinInt, math.MaxInt, api.ErrArg},
	}
	for _, c := range cases {
		if e := start(t, 10).place(c.part, c.from, c.many); e != c.e {
			t.Errorf("Place(%d, %d, %d): %v, not %v", c.part, c.from, c.many, e, c.e)
		}
	}
}

// P15.2, P0: of several faults, ErrArg comes before ErrGap.
func TestSeveralFaults(t *testing.T) {
	full := func() *bench { return start(t, 10, slot(1, 0, 10)) }
	for _, c := range [][3]int{{8, 0, 1}, {-1, 0, 1}, {2, 0, 0}, {2, 5, -1}, {2, 9, 2}, {2, 0, 11}, {2, -1, 3}, {8, 0, 11}} {
		if e := full().place(c[0], c[1], c[2]); e != api.ErrArg {
			t.Errorf("Place(%v): %v", c, e)
		}
	}
	if e := full().place(2, 9, 1); e != api.ErrGap {
		t.Error(e)
	}
	for _, c := range [][2]int{{8, 1}, {-1, 1}, {2, 0}, {2, -1}, {8, 11}, {8, 0}} {
		if _, e := full().insert(c[0], c[1]); e != api.ErrArg {
			t.Errorf("Insert(%v): %v", c, e)
		}
	}
	if _, e := full().insert(2, 1); e != api.ErrGap {
		t.Error(e)
	}
	b := full()
	if e := b.move(8, 0, -1); e != api.ErrNone {
		t.Error(e)
	}
	if e := b.move(2, 0, 5); e != api.ErrNone {
		t.Error(e)
	}
	// The window leaves the table, and another one is in its way.
	b = start(t, 10, slot(1, 0, 4), slot(2, 7, 2))
	if e := b.move(1, 0, 8); e != api.ErrArg {
		t.Error(e)
	}
}

// P15.2: a window just behind and just before another one, over its first or
// its last tick, within it, around it, and the same.
func TestNeighbours(t *testing.T) {
	cases := []struct {
		from, many int
		e          api.Errno
	}{
		{7, 2, api.OK}, {7, 3, api.OK}, {2, 2, api.OK}, {0, 4, api.OK},
		{3, 2, api.ErrGap}, {4, 1, api.ErrGap}, {6, 1, api.ErrGap}, {6, 2, api.ErrGap},
		{5, 1, api.ErrGap}, {4, 3, api.ErrGap}, {3, 5, api.ErrGap}, {0, 10, api.ErrGap},
		{4, 2, api.ErrGap}, {5, 2, api.ErrGap}, {0, 5, api.ErrGap}, {6, 4, api.ErrGap},
	}
	for _, c := range cases {
		// Of its own partition a window is as much in the way as of another one.
		for _, part := range []int{1, 2} {
			b := start(t, 10, slot(1, 4, 3))
			if e := b.place(part, c.from, c.many); e != c.e {
				t.Errorf("Place(%d, %d, %d): %v, not %v", part, c.from, c.many, e, c.e)
			}
		}
	}
}

// P15.2: Insert with every number of edges for each argument.
func TestInsertOfEdges(t *testing.T) {
	for _, ticks := range []int{1, 2, 10, 255, 256} {
		for _, part := range edges {
			for _, many := range edges {
				b := start(t, ticks)
				from, e := b.insert(part, many)
				wrong := part < 0 || part > 7 || many < 1
				if wrong && e != api.ErrArg || !wrong && (e == api.OK) != (many <= ticks) || from != 0 {
					t.Fatalf("Insert(%d, %d) of %d ticks: %d, %v", part, many, ticks, from, e)
				}
			}
		}
	}
}

// P15.2: Insert into gaps at the beginning, between two windows and at the end;
// where the first gap is too small; and into one of exactly that many ticks.
func TestInsert(t *testing.T) {
	cases := []struct {
		windows    []api.Slot
		many, from int
		e          api.Errno
	}{
		{nil, 10, 0, api.OK},
		{nil, 11, 0, api.ErrGap},
		{[]api.Slot{slot(1, 3, 7)}, 2, 0, api.OK},
		{[]api.Slot{slot(1, 3, 7)}, 3, 0, api.OK},
		{[]api.Slot{slot(1, 3, 7)}, 4, 0, api.ErrGap},
		{[]api.Slot{slot(1, 0, 3), slot(2, 6, 4)}, 1, 3, api.OK},
		{[]api.Slot{slot(1, 0, 3), slot(2, 6, 4)}, 3, 3, api.OK},
		{[]api.Slot{slot(1, 0, 3), slot(2, 6, 4)}, 4, 0, api.ErrGap},
		{[]api.Slot{slot(1, 0, 8)}, 1, 8, api.OK},
		{[]api.Slot{slot(1, 0, 8)}, 2, 8, api.OK},
		{[]api.Slot{slot(1, 0, 8)}, 3, 0, api.ErrGap},
		{[]api.Slot{slot(1, 1, 2), slot(2, 5, 1)}, 1, 0, api.OK},
		{[]api.Slot{slot(1, 1, 2), slot(2, 5, 1)}, 2, 3, api.OK},
		{[]api.Slot{slot(1, 1, 2), slot(2, 5, 1)}, 3, 6, api.OK},
		{[]api.Slot{slot(1, 1, 2), slot(2, 5, 1)}, 4, 6, api.OK},
		{[]api.Slot{slot(1, 1, 2), slot(2, 5, 1)}, 5, 0, api.ErrGap},
		{[]api.Slot{slot(2, 5, 1), slot(1, 1, 2)}, 3, 6, api.OK},
		{[]api.Slot{slot(1, 0, 10)}, 1, 0, api.ErrGap},
		{[]api.Slot{slot(1, 0, 5), slot(2, 5, 5)}, 1, 0, api.ErrGap},
		{[]api.Slot{slot(1, 0, 3)}, math.MaxInt, 0, api.ErrGap},
		{[]api.Slot{slot(1, 0, 3)}, math.MaxInt - 2, 0, api.ErrGap},
	}
	for _, c := range cases {
		b := start(t, 10, c.windows...)
		if from, e := b.insert(4, c.many); from != c.from || e != c.e {
			t.Errorf("Insert(4, %d) of %v: %d, %v, not %d, %v", c.many, c.windows, from, e, c.from, c.e)
		}
	}
	// The greatest table, where the last gap ends with tick 255.
	b := start(t, 256, slot(1, 0, 254))
	if from, e := b.insert(2, 3); from != 0 || e != api.ErrGap {
		t.Error(from, e)
	}
	if from, e := b.insert(2, 2); from != 254 || e != api.OK {
		t.Error(from, e)
	}
	if from, e := b.insert(2, 1); from != 0 || e != api.ErrGap {
		t.Error(from, e)
	}
}

// P15.3: Move of no window, from a tick within a window, of another part's
// window; to where it stands, to ticks of which only its own old ones are in the
// way, onto another window, and out of the table.
func TestMove(t *testing.T) {
	windows := []api.Slot{slot(1, 0, 2), slot(2, 4, 4), slot(1, 9, 1)}
	cases := []struct {
		part, from, to int
		e              api.Errno
	}{
		{1, 2, 5, api.ErrNone}, {3, 0, 2, api.ErrNone}, {2, 5, 3, api.ErrNone}, {2, 7, 3, api.ErrNone}, {1, 1, 2, api.ErrNone},
		{2, 0, 2, api.ErrNone}, {1, 4, 3, api.ErrNone}, {2, 9, 3, api.ErrNone}, {0, 0, 0, api.ErrNone}, {-1, 0, 0, api.ErrNone}, {-1, 2, 0, api.ErrNone}, {8, 0, 0, api.ErrNone},
		{1, -1, 2, api.ErrNone}, {1, 10, 2, api.ErrNone}, {1, math.MaxInt, 2, api.ErrNone}, {1, math.MinInt, 2, api.ErrNone},
		{1, 0, 0, api.OK}, {2, 4, 4, api.OK}, {1, 9, 9, api.OK},
		{2, 4, 3, api.OK}, {2, 4, 2, api.OK}, {2, 4, 5, api.OK}, {1, 0, 1, api.OK}, {1, 0, 2, api.OK}, {1, 9, 8, api.OK}, {1, 9, 3, api.OK},
		{2, 4, 1, api.ErrGap}, {2, 4, 0, api.ErrGap}, {2, 4, 6, api.ErrGap}, {1, 0, 3, api.ErrGap}, {1, 0, 5, api.ErrGap}, {1, 0, 7, api.ErrGap}, {1, 0, 8, api.ErrGap}, {1, 9, 0, api.ErrGap}, {1, 9, 1, api.ErrGap}, {1, 9, 4, api.ErrGap}, {1, 9, 7, api.ErrGap},
		{2, 4, 7, api.ErrArg}, {2, 4, 10, api.ErrArg}, {2, 4, -1, api.ErrArg}, {1, 0, 9, api.ErrArg}, {1, 9, 10, api.ErrArg}, {1, 9, -1, api.ErrArg}, {1, 0, math.MaxInt, api.ErrArg}, {1, 0, math.MinInt, api.ErrArg}, {2, 4, math.MaxInt - 3, api.ErrArg},
	}
	for _, c := range cases {
		b := start(t, 10, windows...)
		if e := b.move(c.part, c.from, c.to); e != c.e {
			t.Errorf("Move(%d, %d, %d): %v, not %v", c.part, c.from, c.to, e, c.e)
		}
		if c.e != api.OK {
			b.is(windows)
		}
		// It has no more windows than before, and its old ticks are free again.
		if l := b.s.Slots(); len(l) != len(windows) {
			t.Errorf("Move(%d, %d, %d): %v", c.part, c.from, c.to, l)
		}
	}
}

// P15.3: Move with every number of edges for each argument.
func TestMoveOfEdges(t *testing.T) {
	for _, part := range []int{math.MinInt, -1, 0, 1, 2, 7, 8, 9, math.MaxInt} {
		for _, from := range edges {
			for _, to := range edges {
				start(t, 10, slot(7, 1, 2), slot(0, 3, 1), slot(1, 8, 2)).move(part, from, to)
			}
		}
	}
}

// P15.3: Remove of a part with no, one and several windows, and of numbers that
// are no part.
func TestRemove(t *testing.T) {
	windows := []api.Slot{slot(7, 0, 1), slot(0, 1, 2), slot(3, 4, 1), slot(0, 5, 1), slot(7, 6, 3), slot(0, 9, 1)}
	for _, c := range []struct{ part, many int }{{0, 3}, {7, 2}, {3, 1}, {1, 0}, {6, 0}, {-1, 0}, {8, 0}, {256, 0}, {math.MinInt, 0}, {math.MaxInt, 0}} {
		b := start(t, 10, windows...)
		if many := b.remove(c.part); many != c.many {
			t.Errorf("Remove(%d): %d, not %d", c.part, many, c.many)
		}
		if many := b.remove(c.part); many != 0 {
			t.Errorf("Remove(%d) once more: %d", c.part, many)
		}
	}
	for _, part := range edges {
		start(t, 10, windows...).remove(part)
		start(t, 10).remove(part)
	}
	b := start(t, 10, windows...)
	if b.remove(7)+b.remove(0)+b.remove(3) != 6 || len(b.s.Slots()) != 0 {
		t.Error(b.s.Slots())
	}
	if from, e := b.insert(5, 10); from != 0 || e != api.OK {
		t.Error(from, e)
	}
}

// P15.4: At of each tick, of -1, of Ticks and beyond.
func TestAt(t *testing.T) {
	s, _ := slots.New(10)
	for _, e := range []api.Errno{s.Place(3, 7, 3), s.Place(0, 0, 1), s.Place(7, 2, 2)} {
		if e != api.OK {
			t.Fatal(e)
		}
	}
	for tick, want := range []int{0, -1, 7, 7, -1, -1, -1, 3, 3, 3} {
		if got := s.At(tick); got != want {
			t.Errorf("At(%d): %d, not %d", tick, got, want)
		}
	}
	full, _ := slots.New(256)
	full.Place(5, 0, 256)
	for _, tick := range edges {
		if tick < 0 || tick >= 10 {
			if got := s.At(tick); got != -1 {
				t.Errorf("At(%d) of 10 ticks: %d", tick, got)
			}
		}
		want := -1
		if tick >= 0 && tick < 256 {
			want = 5
		}
		if got := full.At(tick); got != want {
			t.Errorf("At(%d) of 256 ticks: %d, not %d", tick, got, want)
		}
	}
}

// arrangements calls do with every list of windows that don't overlap, of as
// many ticks; their parts are 0, 1 and 0 and 2 by turns.
func arrangements(ticks, from int, windows []api.Slot, do func([]api.Slot)) {
	if from >= ticks {
		do(windows)
		return
	}
	arrangements(ticks, from+1, windows, do)
	part := []int{0, 1, 0, 2}[len(windows)%4]
	for many := 1; from+many <= ticks; many++ {
		arrangements(ticks, from+many, append(slices.Clone(windows), slot(part, from, many)), do)
	}
}

// P15.5, P15.2, P15.3: all tables of up to 5 ticks, with every call.
func TestAllSmallTables(t *testing.T) {
	for ticks := 1; ticks <= 5; ticks++ {
		arrangements(ticks, 0, nil, func(windows []api.Slot) {
			first := start(t, ticks, windows...)
			apart(t, first.s)
			for part := -1; part <= 3; part++ {
				for n := -1; n <= ticks+1; n++ {
					for m := -1; m <= ticks+1; m++ {
						first.copied().place(part, n, m)
						first.copied().move(part, n, m)
					}
					first.copied().insert(part, n)
				}
				first.copied().remove(part)
			}
			first.same("after its copies have changed")
		})
	}
}

// apart tells whether no two windows have a tick in common, and all of them are
// in the table.
func apart(t *testing.T, s *slots.Table) {
	t.Helper()
	end := 0
	for _, w := range s.Slots() {
		if w.From < end || w.Len < 1 || w.Part < 0 || w.Part > 7 {
			t.Fatalf("a wrong window, or windows that overlap: %v", s.Slots())
		}
		end = w.From + w.Len
	}
	if end > s.Ticks() {
		t.Fatalf("a window that leaves the table: %v", s.Slots())
	}
}

// others are the windows of all partitions but one.
func others(s *slots.Table, part int) []api.Slot {
	return slices.DeleteFunc(s.Slots(), func(w api.Slot) bool { return w.Part == part })
}

// dice is a row of numbers that is the same at every run.
type dice uint64

// roll is a number from 0 to n - 1.
func (d *dice) roll(n int) int {
	*d = *d*6364136223846793005 + 1442695040888963407
	return int(uint64(*d) >> 33 % uint64(n))
}

// P15.5: long mixtures of calls, of tables of several lengths, held against the
// model: windows never overlap, and a call for one partition leaves the windows
// of the others as they are.
func TestMixture(t *testing.T) {
	d := dice(15)
	for _, ticks := range []int{1, 2, 3, 8, 10, 33, 64, 65, 255, 256} {
		b := start(t, ticks)
		for range 1500 {
			part := d.roll(9) - d.roll(2)
			before := others(b.s, part)
			from, to := d.roll(ticks+2)-1, d.roll(ticks+2)-1
			if l := b.s.Slots(); len(l) > 0 && d.roll(4) > 0 {
				w := l[d.roll(len(l))]
				from = w.From
				if d.roll(4) > 0 {
					part = w.Part
					before = others(b.s, part)
				}
			}
			switch d.roll(16) {
			case 0:
				b.remove(part)
			case 1, 2, 3, 4:
				b.insert(part, d.roll(1+ticks/4)+d.roll(3)-1)
			case 5, 6, 7, 8:
				b.place(part, to, d.roll(1+ticks/4)+d.roll(3)-1)
			case 9:
				b.s, b.w = b.s.Copy(), b.w.copied()
			default:
				b.move(part, from, to)
			}
			apart(t, b.s)
			if after := others(b.s, part); !slices.Equal(before, after) {
				t.Fatalf("windows of others: %v, not %v", after, before)
			}
		}
	}
}

// R4: the same calls on two tables, of which other calls went before on others,
// answer the same.
func TestSameCalls(t *testing.T) {
	run := func() []int {
		s, _ := slots.New(40)
		d, out := dice(4), []int{}
		for range 300 {
			switch d.roll(4) {
			case 0:
				from, e := s.Insert(d.roll(8), 1+d.roll(5))
				out = append(out, from, int(e))
			case 1:
				out = append(out, int(s.Place(d.roll(8), d.roll(40), 1+d.roll(5))))
			case 2:
				from := d.roll(40)
				out = append(out, int(s.Move(s.At(from), from, d.roll(40))))
			case 3:
				out = append(out, s.At(d.roll(40)))
			}
		}
		return append(out, len(s.Slots()))
	}
	if one, two := run(), run(); !slices.Equal(one, two) {
		t.Error("two runs answer otherwise")
	}
}

// P0: after every wrong call, the table still does what it must.
func TestAfterWrongCalls(t *testing.T) {
	b := start(t, 10, slot(1, 0, 4), slot(2, 5, 3))
	for _, n := range edges {
		b.place(n, n, n)
		b.insert(n, math.MaxInt)
		b.move(n, n, n)
		if n != 1 && n != 2 {
			b.remove(n)
		}
		b.s.At(n)
	}
	for _, part := range []int{0, 3, 4, 5, 6, 7} {
		b.remove(part)
	}
	b.is([]api.Slot{slot(1, 0, 4), slot(2, 5, 3)})
}
