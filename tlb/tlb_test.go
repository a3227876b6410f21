package tlb_test

import (
	"math"
	"slices"
	"testing"

	"trunnion/api"
	"trunnion/tlb"
)

// edges are numbers around all bounds of an Asid, a Page, a Frame and a slot,
// and the ends of int. Cut to 32, 16, 12, 8 or 3 bits, many of them are right
// ones.
var edges = []int{math.MinInt, math.MinInt + 1, math.MinInt + 4095, math.MinInt32, -65536, -4096, -4095, -256, -255, -8, -7, -2, -1, 0, 1, 2, 6, 7, 8, 9, 10, 15, 16, 254, 255, 256, 257, 4094, 4095, 4096, 4097, 65536, 65537, math.MaxInt32, 1 << 32, 1<<32 + 1, 1<<32 + 4095, math.MaxInt - 1, math.MaxInt}

// line is one that may not be written.
func line(asid, page, frame int) api.Line {
	return api.Line{Asid: asid, Page: page, Frame: frame}
}

// model tells what each slot must contain; nil: it is empty.
type model [8]*api.Line

// slot is where the line of a page of an address space must be; -1: nowhere.
func (w *model) slot(asid, page int) int {
	for n, l := range w {
		if l != nil && l.Asid == asid && l.Page == page {
			return n
		}
	}
	return -1
}

// lines are all, in the order of their slots.
func (w *model) lines() []api.Line {
	var out []api.Line
	for _, l := range w {
		if l != nil {
			out = append(out, *l)
		}
	}
	return out
}

// put is what Put must answer, and the slot in which the line must be then.
func (w *model) put(l api.Line, at int) (int, api.Errno) {
	if l.Asid < 1 || l.Asid > 8 || l.Page < 0 || l.Page > 4095 || l.Frame < 0 || l.Frame > 255 || at < 0 || at > 7 {
		return -1, api.ErrArg
	}
	to := w.slot(l.Asid, l.Page)
	for n := 0; n < 8 && to == -1; n++ {
		if w[n] == nil {
			to = n
		}
	}
	if to == -1 {
		to = at
	}
	w[to] = &l
	return to, api.OK
}

// drop is what Drop must answer.
func (w *model) drop(asid, page int) bool {
	n := w.slot(asid, page)
	if n == -1 {
		return false
	}
	w[n] = nil
	return true
}

// flush is what Flush must answer.
func (w *model) flush(asid int) int {
	many := 0
	for n, l := range w {
		if l != nil && l.Asid == asid {
			w[n] = nil
			many++
		}
	}
	return many
}

// bench is a buffer, and what it must hold.
type bench struct {
	*testing.T
	b *tlb.Buffer
	w *model
}

// start is a new buffer.
func start(t *testing.T) *bench {
	t.Helper()
	b := tlb.New()
	if b == nil {
		t.Fatal("New() = nil")
	}
	return &bench{T: t, b: b, w: &model{}}
}

// filled is a buffer with a line in each of the first slots: that in slot n is
// of address space 1+n%4, page 10+n and frame 20+n.
func filled(t *testing.T, many int) *bench {
	t.Helper()
	x := start(t)
	for n := range many {
		x.put(line(1+n%4, 10+n, 20+n), 7-n, n)
	}
	return x
}

// found holds what Find answers against what the buffer must hold.
func (x *bench) found(asid, page int) {
	x.Helper()
	var want api.Line
	n := x.w.slot(asid, page)
	if n != -1 {
		want = *x.w[n]
	}
	if got, is := x.b.Find(asid, page); got != want || is != (n != -1) {
		x.Fatalf("Find(%d, %d) = %+v, %v, want %+v, %v", asid, page, got, is, want, n != -1)
	}
}

// holds holds Lines, and Find of each line and of what is near it, against what
// the buffer must hold.
func (x *bench) holds() {
	x.Helper()
	want := x.w.lines()
	if got := x.b.Lines(); !slices.Equal(got, want) {
		x.Fatalf("Lines() = %+v, want %+v", got, want)
	}
	for asid := -1; asid < 10; asid++ {
		for _, l := range append(want, line(0, 0, 0)) {
			x.found(asid, l.Page)
			x.found(l.Asid, l.Page+1)
			x.found(l.Asid, l.Page-1)
			x.found(asid, l.Frame)
		}
	}
}

// slots finds which slots are empty, as lines alone do not tell: it fills them
// one by one, and removes what it put.
func (x *bench) slots() {
	x.Helper()
	want := *x.w
	var probes []api.Line
	for n := range want {
		if want[n] != nil {
			continue
		}
		probe := line(8, 4095, 0)
		for x.w.slot(8, probe.Page) != -1 || slices.Contains(probes, probe) {
			probe.Page--
		}
		if e := x.b.Put(probe, 7-n); e != api.OK {
			x.Fatalf("Put(%+v, %d) = %d, want OK", probe, 7-n, e)
		}
		want[n] = &probe
		probes = append(probes, probe)
	}
	if got := x.b.Lines(); !slices.Equal(got, want.lines()) {
		x.Fatalf("with %+v in the empty slots, Lines() = %+v, want %+v", probes, got, want.lines())
	}
	for _, probe := range probes {
		if !x.b.Drop(probe.Asid, probe.Page) {
			x.Fatalf("Drop(%d, %d) = false", probe.Asid, probe.Page)
		}
	}
	x.holds()
}

// put calls Put, after which the line must be in slot to, and holds all against
// the model.
func (x *bench) put(l api.Line, at, to int) {
	x.Helper()
	if want, e := x.w.put(l, at); want != to || e != api.OK {
		x.Fatalf("the test is wrong: Put(%+v, %d): slot %d or %d, %d", l, at, want, to, e)
	}
	if e := x.b.Put(l, at); e != api.OK {
		x.Fatalf("Put(%+v, %d) = %d, want OK", l, at, e)
	}
	x.holds()
	x.slots()
}

// wrong calls Put, which must answer ErrArg, and holds all against the model.
func (x *bench) wrong(l api.Line, at int) {
	x.Helper()
	if _, e := x.w.put(l, at); e != api.ErrArg {
		x.Fatalf("the test is wrong: Put(%+v, %d): %d", l, at, e)
	}
	if e := x.b.Put(l, at); e != api.ErrArg {
		x.Fatalf("Put(%+v, %d) = %d, want ErrArg", l, at, e)
	}
	x.holds()
}

// drop calls Drop, which must answer is, and holds all against the model.
func (x *bench) drop(asid, page int, is bool) {
	x.Helper()
	if want := x.w.drop(asid, page); want != is {
		x.Fatalf("the test is wrong: Drop(%d, %d): %v or %v", asid, page, want, is)
	}
	if got := x.b.Drop(asid, page); got != is {
		x.Fatalf("Drop(%d, %d) = %v, want %v", asid, page, got, is)
	}
	x.holds()
	x.slots()
}

// flush calls Flush, which must answer many, and holds all against the model.
func (x *bench) flush(asid, many int) {
	x.Helper()
	if want := x.w.flush(asid); want != many {
		x.Fatalf("the test is wrong: Flush(%d): %d or %d", asid, want, many)
	}
	if got := x.b.Flush(asid); got != many {
		x.Fatalf("Flush(%d) = %d, want %d", asid, got, many)
	}
	x.holds()
	x.slots()
}

// clear calls Clear, and holds all against the model.
func (x *bench) clear() {
	x.Helper()
	*x.w = model{}
	x.b.Clear()
	if got := x.b.Lines(); len(got) != 0 {
		x.Fatalf("after Clear, Lines() = %+v", got)
	}
	x.holds()
	x.slots()
}

// The document's example: after nine lines, the ninth is in the slot that it
// specified; whichever it is, and whatever the other lines specified.
func TestExample(t *testing.T) {
	for at := range 8 {
		b := tlb.New()
		for n := range 9 {
			if e := b.Put(line(1, n, n), at); e != api.OK {
				t.Errorf("Put of line %d = %d, want OK", n, e)
			}
		}
		want := []api.Line{line(1, 0, 0), line(1, 1, 1), line(1, 2, 2), line(1, 3, 3), line(1, 4, 4), line(1, 5, 5), line(1, 6, 6), line(1, 7, 7)}
		want[at] = line(1, 8, 8)
		if got := b.Lines(); !slices.Equal(got, want) {
			t.Errorf("at %d: Lines() = %+v, want %+v", at, got, want)
		}
		if l, is := b.Find(1, 8); l != want[at] || !is {
			t.Errorf("at %d: Find(1, 8) = %+v, %v, want %+v, true", at, l, is, want[at])
		}
		if l, is := b.Find(1, at); l != (api.Line{}) || is {
			t.Errorf("at %d: Find(1, %d) = %+v, %v, want none", at, at, l, is)
		}
	}
}

// P9.1: a new buffer has no lines, and Find finds none there: not that of the
// zero line either.
func TestNewIsEmpty(t *testing.T) {
	b := tlb.New()
	if got := b.Lines(); len(got) != 0 {
		t.Errorf("Lines() = %+v, want none", got)
	}
	for _, asid := range edges {
		for _, page := range edges {
			if l, is := b.Find(asid, page); l != (api.Line{}) || is {
				t.Errorf("Find(%d, %d) = %+v, %v, want none", asid, page, l, is)
			}
		}
	}
	for asid := range 10 {
		for page := range 4097 {
			if _, is := b.Find(asid, page); is {
				t.Errorf("Find(%d, %d) is true in an empty buffer", asid, page)
			}
		}
	}
}

// P9.1: what is put in one buffer is not in another, and Clear is of one.
func TestTwoBuffers(t *testing.T) {
	x, y := start(t), start(t)
	x.put(line(1, 2, 3), 0, 0)
	y.holds()
	y.put(line(1, 2, 4), 0, 0)
	y.put(line(5, 6, 7), 0, 1)
	x.holds()
	y.clear()
	x.holds()
	x.put(line(1, 2, 5), 1, 0)
	y.holds()
}

// P9.1: Find of a line that is there, of the same Page with another Asid and of
// the same Asid with another Page.
func TestFindNeedsAsidAndPage(t *testing.T) {
	b := tlb.New()
	l := api.Line{Asid: 3, Page: 0x123, Frame: 77, Write: true}
	b.Put(l, 0)
	if got, is := b.Find(3, 0x123); got != l || !is {
		t.Errorf("Find(3, 0x123) = %+v, %v, want %+v, true", got, is, l)
	}
	for _, asid := range edges {
		for _, page := range append([]int{0x123, 3, 77}, edges...) {
			if got, is := b.Find(asid, page); asid == 3 && page == 0x123 {
				continue
			} else if got != (api.Line{}) || is {
				t.Errorf("Find(%d, %d) = %+v, %v, want none", asid, page, got, is)
			}
		}
	}
	for page := range 4096 {
		if _, is := b.Find(3, page); is != (page == 0x123) {
			t.Errorf("Find(3, %d) is %v", page, is)
		}
	}
}

// P9.1: lines with the same Page, the same Asid and the same Frame beside each
// other; and that of a swapped Asid and Page.
func TestLinesThatAreAlike(t *testing.T) {
	x := start(t)
	for n, l := range []api.Line{line(1, 5, 9), line(2, 5, 9), line(5, 1, 9), line(1, 6, 9), line(1, 0, 9), {Asid: 2, Page: 6, Frame: 9, Write: true}, line(6, 2, 0), line(8, 8, 8)} {
		x.put(l, 0, n)
	}
	x.drop(2, 5, true)
	x.drop(1, 0, true)
	x.flush(1, 2)
}

// P9.1 and P9.2: each page of each address space, with many frames, writable
// or not.
func TestEachLine(t *testing.T) {
	b := tlb.New()
	for asid := 1; asid <= 8; asid++ {
		for page := range 4096 {
			l := api.Line{Asid: asid, Page: page, Frame: (page + asid) % 256, Write: (page/256+asid)%2 == 0}
			if e := b.Put(l, page%8); e != api.OK {
				t.Fatalf("Put(%+v) = %d, want OK", l, e)
			}
			if got, is := b.Find(asid, page); got != l || !is {
				t.Fatalf("Find(%d, %d) = %+v, %v, want %+v, true", asid, page, got, is, l)
			}
		}
	}
	if got := b.Lines(); len(got) != 8 {
		t.Errorf("Lines() = %+v, want 8 of them", got)
	}
}

// P9.2: the Asids, Pages, Frames and slots on both sides of their bounds, into
// buffers that are empty, in part full, and full.
func TestBoundsOfPut(t *testing.T) {
	for _, many := range []int{0, 3, 8} {
		for _, asid := range []int{0, 1, 8, 9} {
			for _, page := range []int{-1, 0, 4095, 4096} {
				for _, frame := range []int{-1, 0, 255, 256} {
					for _, at := range []int{-1, 0, 7, 8} {
						x := filled(t, many)
						l := api.Line{Asid: asid, Page: page, Frame: frame, Write: at == 0}
						if asid == 0 || asid == 9 || page == -1 || page == 4096 || frame == -1 || frame == 256 || at == -1 || at == 8 {
							x.wrong(l, at)
							x.slots()
						} else if many == 8 {
							x.put(l, at, at)
						} else {
							x.put(l, at, many)
						}
					}
				}
			}
		}
	}
}

// P9.2 and R1: one wrong argument beside right ones, up to the ends of int: of
// a line that is there, and of one that is not. Nothing changes.
func TestWrongArgumentsOfPut(t *testing.T) {
	for _, many := range []int{0, 1, 5, 8} {
		x := filled(t, many)
		for _, n := range edges {
			for _, l := range []api.Line{line(1, 10, 99), line(2, 11, 99), line(8, 4000, 99)} {
				for _, write := range []bool{false, true} {
					l.Write = write
					if n < 1 || n > 8 {
						x.wrong(api.Line{Asid: n, Page: l.Page, Frame: l.Frame, Write: write}, 0)
					}
					if n < 0 || n > 4095 {
						x.wrong(api.Line{Asid: l.Asid, Page: n, Frame: l.Frame, Write: write}, 0)
					}
					if n < 0 || n > 255 {
						x.wrong(api.Line{Asid: l.Asid, Page: l.Page, Frame: n, Write: write}, 0)
					}
					if n < 0 || n > 7 {
						x.wrong(l, n)
					}
				}
			}
		}
		x.slots()
	}
}

// P9.2: at is asked about also where it does not tell the slot.
func TestSlotIsCheckedWhereItIsNotNeeded(t *testing.T) {
	x := filled(t, 4)
	for _, at := range []int{math.MinInt, -8, -1, 8, 16, math.MaxInt} {
		x.wrong(line(1, 10, 99), at)
		x.wrong(line(8, 99, 99), at)
	}
	x.wrong(api.Line{}, 0)
	x.slots()
}

// P9.2 and P0: all combinations of edges, against the model.
func TestAllEdgesOfPut(t *testing.T) {
	x := filled(t, 8)
	for _, asid := range edges {
		for _, page := range edges {
			for _, frame := range edges {
				for _, at := range edges {
					l := api.Line{Asid: asid, Page: page, Frame: frame, Write: (asid+page+at)%2 == 0}
					_, want := x.w.put(l, at)
					if e := x.b.Put(l, at); e != want {
						t.Fatalf("Put(%+v, %d) = %d, want %d", l, at, e, want)
					}
				}
			}
			if got, want := x.b.Lines(), x.w.lines(); !slices.Equal(got, want) {
				t.Fatalf("after Put of (%d, %d), Lines() = %+v, want %+v", asid, page, got, want)
			}
		}
		x.holds()
	}
}

// P9.2: lines fill the slots in their order, whatever slot they specify.
func TestPutFillsTheFirstEmptySlot(t *testing.T) {
	for at := range 8 {
		x := start(t)
		for n := range 8 {
			x.put(line(1+n, 100-n, n), (at+n*3)%8, n)
		}
		x.put(line(1, 200, 200), at, at)
	}
}

// P9.2: a line with the Asid and Page of one that is there replaces that one,
// with slots empty and with none, whichever slot is specified.
func TestPutOfALineThatIsThere(t *testing.T) {
	for many := 1; many <= 8; many++ {
		for n := range many {
			for at := range 8 {
				x := filled(t, many)
				x.put(api.Line{Asid: 1 + n%4, Page: 10 + n, Frame: 255, Write: true}, at, n)
				x.put(line(1+n%4, 10+n, 0), 7-at, n)
				x.put(line(1+n%4, 10+n, 0), at, n)
			}
		}
	}
}

// P9.2: the same, with an empty slot before that of the line: it stays empty.
func TestPutOfALineBehindAnEmptySlot(t *testing.T) {
	for gap := range 8 {
		for n := range 8 {
			if n == gap {
				continue
			}
			x := filled(t, 8)
			x.drop(1+gap%4, 10+gap, true)
			x.put(api.Line{Asid: 1 + n%4, Page: 10 + n, Frame: 99, Write: true}, gap, n)
			x.put(line(1+n%4, 10+n, 98), 0, n)
			x.put(line(5, 4095, 97), n, gap)
		}
	}
}

// P9.2: a line with the same Asid, or the same Page alone, replaces none.
func TestPutOfALineThatIsAlike(t *testing.T) {
	x := filled(t, 2)
	x.put(line(1, 11, 99), 0, 2)
	x.put(line(2, 10, 99), 1, 3)
	x.put(line(3, 10, 20), 0, 4)
	x.put(line(1, 20, 10), 0, 5)
}

// P9.2: Put into a full buffer, at each slot: the line there goes, no other
// one; and then one that came goes.
func TestPutIntoAFullBuffer(t *testing.T) {
	for at := range 8 {
		x := filled(t, 8)
		x.put(api.Line{Asid: 7, Page: 4095, Frame: 255, Write: true}, at, at)
		x.put(line(1+at%4, 10+at, 1), at, at)
		x.put(line(8, 0, 0), (at+1)%8, (at+1)%8)
		x.put(line(1+at%4, 10+at, 2), (at+5)%8, at)
	}
	x := filled(t, 8)
	for n := range 100 {
		x.put(line(1+n%8, 1000+n, n), n*3%8, n*3%8)
	}
}

// P9.2: Put behind a Drop, into the first empty slot: of one, and of each pair.
func TestPutBehindDrop(t *testing.T) {
	for first := range 8 {
		for second := range 8 {
			x := filled(t, 8)
			x.drop(1+first%4, 10+first, true)
			x.drop(1+second%4, 10+second, first != second)
			for n, slot := range []int{min(first, second), max(first, second)} {
				if n == 1 && first == second {
					break
				}
				x.put(line(6, n, n), 7-slot, slot)
			}
			x.put(line(7, 7, 7), first, first)
		}
	}
}

// P9.2: Put behind a Flush, into the slots that it has emptied, in their order.
func TestPutBehindFlush(t *testing.T) {
	for asid := 1; asid <= 4; asid++ {
		x := filled(t, 8)
		x.flush(asid, 2)
		x.put(line(6, 1, 1), 7, asid-1)
		x.put(line(6, 2, 2), 0, asid+3)
		x.put(line(6, 3, 3), 5, 5)
	}
	x := filled(t, 6)
	x.flush(2, 2)
	for n, slot := range []int{1, 5, 6, 7, 0} {
		x.put(line(6, n, n), 0, slot)
	}
}

// P9.2: Put behind Clear, from slot 0 on.
func TestPutBehindClear(t *testing.T) {
	for _, many := range []int{0, 1, 4, 8} {
		x := filled(t, many)
		x.clear()
		for n := range 8 {
			x.put(line(1+n%4, 10+n, 100+n), 3, n)
		}
		x.put(line(8, 0, 0), 3, 3)
	}
}

// P9.2: a line's Frame and Write are those that were put last, and a line that
// is put again is the same.
func TestPutChangesFrameAndWrite(t *testing.T) {
	x := start(t)
	for _, write := range []bool{false, true, false, true, true} {
		for _, frame := range []int{0, 255, 7, 7, 0} {
			x.put(api.Line{Asid: 4, Page: 0, Frame: frame, Write: write}, 5, 0)
		}
	}
}

// P9.3: Drop of each line of buffers with each number of lines, and of it once
// more.
func TestDrop(t *testing.T) {
	for many := range 9 {
		for n := range 8 {
			x := filled(t, many)
			x.drop(1+n%4, 10+n, n < many)
			x.drop(1+n%4, 10+n, false)
		}
	}
}

// P9.3: all lines are dropped, from the first, from the last, and mixed; then
// the buffer is empty.
func TestDropAll(t *testing.T) {
	for _, step := range []int{1, 7, 3, 5} {
		x := filled(t, 8)
		for n := range 8 {
			slot := (n + 1) * step % 8
			x.drop(1+slot%4, 10+slot, true)
		}
		if got := x.b.Lines(); len(got) != 0 {
			t.Errorf("Lines() = %+v, want none", got)
		}
	}
}

// P9.3: Drop of a line that is not there: of another Asid, of another Page, of
// one that was replaced, and in an empty buffer.
func TestDropOfALineThatIsNotThere(t *testing.T) {
	x := start(t)
	x.drop(1, 10, false)
	x.drop(0, 0, false)
	x.put(line(1, 10, 20), 0, 0)
	x.drop(2, 10, false)
	x.drop(1, 11, false)
	x.drop(10, 1, false)
	x.drop(1, 20, false)
	x.drop(0, 0, false)
	x = filled(t, 8)
	x.put(line(5, 5, 5), 2, 2)
	x.drop(3, 12, false)
	x.drop(5, 5, true)
	x.drop(5, 5, false)
}

// P9.3: Drop of numbers that no line has drops none, and does not take an empty
// slot for one.
func TestDropOfEdges(t *testing.T) {
	for _, many := range []int{0, 3, 8} {
		x := filled(t, many)
		for _, asid := range edges {
			for _, page := range edges {
				if x.w.slot(asid, page) != -1 {
					continue
				}
				if x.b.Drop(asid, page) {
					t.Fatalf("Drop(%d, %d) = true", asid, page)
				}
			}
		}
		x.holds()
		x.slots()
	}
}

// P9.3 and P9.4: Flush of no line, of some and of all, and what is left.
func TestFlush(t *testing.T) {
	x := filled(t, 7)
	x.flush(5, 0)
	x.flush(8, 0)
	x.flush(2, 2)
	x.flush(2, 0)
	x.flush(4, 1)
	x.flush(1, 2)
	x.flush(3, 2)
	for asid := range 10 {
		x.flush(asid, 0)
	}
}

// P9.3: Flush of each number of lines of one address space, alone and among
// lines of another one, before and behind them.
func TestFlushOfMany(t *testing.T) {
	for many := range 9 {
		for first := range 9 - many {
			x := start(t)
			for n := range 8 {
				asid := 7
				if n >= first && n < first+many {
					asid = 8
				}
				x.put(line(asid, n, n), 0, n)
			}
			x.flush(8, many)
			x.flush(8, 0)
			x.flush(7, 8-many)
		}
		x := start(t)
		for n := range many {
			x.put(line(1, n, n), 0, n)
		}
		x.flush(1, many)
	}
}

// P9.3 and P9.4: each pattern of lines of three address spaces; the slots of
// the one that is flushed first are empty when the others are flushed.
func TestFlushOfPatterns(t *testing.T) {
	for pattern := range 6561 {
		b, w := tlb.New(), &model{}
		for n := range 8 {
			b.Put(line(8, n, n), 0)
			w.put(line(8, n, n), 0)
		}
		counts := [3]int{}
		for n, rest := 0, pattern; n < 8; n, rest = n+1, rest/3 {
			b.Drop(8, n)
			w.drop(8, n)
			counts[rest%3]++
			b.Put(line(1+rest%3, 16+n, n), 0)
			w.put(line(1+rest%3, 16+n, n), 0)
		}
		for _, asid := range []int{3, 1, 3, 2} {
			want := w.flush(asid)
			if got := b.Flush(asid); got != want || asid != 3 && got != counts[asid-1] {
				t.Fatalf("pattern %d: Flush(%d) = %d, want %d", pattern, asid, got, want)
			}
			if got := b.Lines(); !slices.Equal(got, w.lines()) {
				t.Fatalf("pattern %d: after Flush(%d), Lines() = %+v, want %+v", pattern, asid, got, w.lines())
			}
		}
	}
}

// P9.3: Flush of numbers that no line has is 0, and does not count an empty
// slot.
func TestFlushOfEdges(t *testing.T) {
	for _, many := range []int{0, 3, 8} {
		x := filled(t, many)
		for _, asid := range edges {
			if asid < 1 || asid > 4 {
				x.flush(asid, 0)
			}
		}
	}
}

// P9.3: Clear of an empty buffer, of one that is in part full, of one with
// empty slots between lines, and of a full one.
func TestClear(t *testing.T) {
	for many := range 9 {
		x := filled(t, many)
		x.clear()
		x.clear()
		for n := range 8 {
			x.drop(1+n%4, 10+n, false)
			x.flush(n, 0)
		}
	}
	x := filled(t, 8)
	x.drop(1, 10, true)
	x.drop(4, 13, true)
	x.clear()
}

// P9.1: Lines in the order of the slots, with each set of empty slots between
// them; and what is put next is in the first of these.
func TestLinesWithEmptySlots(t *testing.T) {
	for set := range 256 {
		x := filled(t, 8)
		next := -1
		for n := range 8 {
			if set>>n&1 == 0 {
				continue
			}
			x.w.drop(1+n%4, 10+n)
			if !x.b.Drop(1+n%4, 10+n) {
				t.Fatalf("Drop(%d, %d) = false", 1+n%4, 10+n)
			}
			if next == -1 {
				next = n
			}
		}
		x.holds()
		x.slots()
		if next == -1 {
			next = 6
		}
		x.put(line(5, 5, 5), 6, next)
	}
}

// R3: what is done to the result of Lines changes neither the buffer nor
// another result.
func TestLinesBelongToTheCaller(t *testing.T) {
	for _, many := range []int{3, 8} {
		x := filled(t, many)
		first, second := x.b.Lines(), x.b.Lines()
		for n := range first {
			first[n] = line(8, 8, 8)
		}
		if !slices.Equal(second, x.w.lines()) {
			t.Errorf("Lines() = %+v after another result was changed, want %+v", second, x.w.lines())
		}
		x.holds()
		second = append(second[:1], line(7, 7, 7))
		x.holds()
		x.put(line(1, 10, 99), 0, 0)
		if second[0] != line(1, 10, 20) {
			t.Errorf("a result of Lines is %+v after Put, want %+v", second[0], line(1, 10, 20))
		}
		x.slots()
	}
}

// R4: the same calls give the same lines.
func TestSameCallsSameLines(t *testing.T) {
	x, y := filled(t, 8), filled(t, 8)
	for n := range 200 {
		l := line(1+n%8, n*37%4096, n)
		x.b.Put(l, n*5%8)
		y.b.Find(l.Asid, n)
		y.b.Lines()
		y.b.Put(l, n*5%8)
		if !slices.Equal(x.b.Lines(), y.b.Lines()) {
			t.Fatalf("after %d lines: %+v and %+v", n, x.b.Lines(), y.b.Lines())
		}
	}
}

// dice gives numbers by a rule; it is the rule's state.
type dice uint64

// roll is the next number below many.
func (d *dice) roll(many int) int {
	*d = *d*6364136223846793005 + 1442695040888963407
	return int(*d >> 33 % dice(many))
}

// key is an address space and a page of it.
type key struct{ asid, page int }

// wanted are the lines that were put last for an address space and a page, and
// not removed since, also those that others have replaced.
type wanted map[key]api.Line

// P9.4: long mixtures of calls. A line that Find returns is the one that was
// put last and not removed since; and all is as the model has it.
func TestMixtures(t *testing.T) {
	replaced, full := 0, 0
	for seed := range 6 {
		x, last, d := start(t), wanted{}, dice(seed)
		asids, pages := 2+seed, 3+5*seed
		for range 1000 {
			x.call(&d, last, asids, pages)
			if len(last) > len(x.w.lines()) {
				replaced++
			}
			if len(x.w.lines()) == 8 {
				full++
			}
			x.holds()
			for asid := range asids + 2 {
				for page := -1; page <= pages; page++ {
					x.found(asid, page)
					l, is := x.b.Find(asid, page)
					if put, was := last[key{asid, page}]; is && (!was || l != put) {
						t.Fatalf("Find(%d, %d) = %+v, but %+v was put last (%v)", asid, page, l, put, was)
					}
				}
			}
			if d.roll(50) == 0 {
				x.slots()
			}
		}
	}
	if replaced < 1000 || full < 1000 || full > 5000 {
		t.Errorf("of 6000 calls, %d left lines that had been replaced, and %d a full buffer", replaced, full)
	}
}

// call makes one call that the dice choose, and notes in last what it puts and
// removes.
func (x *bench) call(d *dice, last wanted, asids, pages int) {
	x.Helper()
	asid, page, at := d.roll(asids+2), d.roll(pages+1)-1, d.roll(10)-1
	switch pick := d.roll(200); {
	case pick < 176:
		l := api.Line{Asid: asid, Page: page, Frame: d.roll(258) - 1, Write: d.roll(2) == 0}
		_, want := x.w.put(l, at)
		if e := x.b.Put(l, at); e != want {
			x.Fatalf("Put(%+v, %d) = %d, want %d", l, at, e, want)
		} else if e == api.OK {
			last[key{asid, page}] = l
		}
	case pick < 192:
		want := x.w.drop(asid, page)
		if got := x.b.Drop(asid, page); got != want {
			x.Fatalf("Drop(%d, %d) = %v, want %v", asid, page, got, want)
		}
		delete(last, key{asid, page})
	case pick < 199:
		want := x.w.flush(asid)
		if got := x.b.Flush(asid); got != want {
			x.Fatalf("Flush(%d) = %d, want %d", asid, got, want)
		}
		for k := range last {
			if k.asid == asid {
				delete(last, k)
			}
		}
	default:
		x.b.Clear()
		*x.w = model{}
		clear(last)
	}
}
