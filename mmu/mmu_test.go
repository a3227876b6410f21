package mmu_test

import (
	"math"
	"slices"
	"testing"

	"trunnion/api"
	"trunnion/buddy"
	"trunnion/memory"
	"trunnion/mmu"
	"trunnion/tables"
	"trunnion/tlb"
	"trunnion/walk"
)

// edges are numbers around all bounds of a frame, an asid, an address and a
// slot, and the ends of int. Cut to 32, 16, 8 or 3 bits, or times 16, many of
// them are right ones.
var edges = []int{math.MinInt, math.MinInt + 1, math.MinInt + 7, math.MinInt + 65535, math.MinInt / 16, math.MinInt/16 + 1, math.MinInt32, -1 << 32, -65537, -65536, -65535, -4096, -257, -256, -255, -17, -16, -15, -9, -8, -7, -2, -1, 0, 1, 2, 6, 7, 8, 9, 10, 11, 12, 13, 14, 15, 16, 17, 31, 32, 33, 255, 256, 257, 4095, 4096, 4097, 65519, 65520, 65534, 65535, 65536, 65537, 65552, 131071, math.MaxInt32, 1 << 31, 1 << 32, 1<<32 + 1, 1<<32 + 7, 1<<32 + 65535, 1 << 60, 1<<60 + 1, 1 << 62, math.MaxInt / 16, math.MaxInt/16 + 1, math.MaxInt - 65535, math.MaxInt - 15, math.MaxInt - 1, math.MaxInt}

// table, readable and writable are entries that lead to a frame.
func table(frame int) api.Entry    { return api.Entry{Valid: true, Table: true, Frame: frame} }
func readable(frame int) api.Entry { return api.Entry{Valid: true, Frame: frame} }
func writable(frame int) api.Entry { return api.Entry{Valid: true, Write: true, Frame: frame} }

// line is one that may not be written; open is one that may.
func line(asid, page, frame int) api.Line {
	return api.Line{Asid: asid, Page: page, Frame: frame}
}
func open(asid, page, frame int) api.Line {
	return api.Line{Asid: asid, Page: page, Frame: frame, Write: true}
}

// model tells what a unit must answer, from the words of the memory, the slots
// of the buffer (nil: empty) and the current address space (asid 0: none).
type model struct {
	words      []uint64
	slots      [8]*api.Line
	root, asid int
}

// frames is the number of frames of the memory.
func (w *model) frames() int { return len(w.words) / 16 }

// lines are those of the buffer, in the order of their slots.
func (w *model) lines() []api.Line {
	var out []api.Line
	for _, l := range w.slots {
		if l != nil {
			out = append(out, *l)
		}
	}
	return out
}

// slot is where the line of a page of an address space is; -1: nowhere.
func (w *model) slot(asid, page int) int {
	for n, l := range w.slots {
		if l != nil && l.Asid == asid && l.Page == page {
			return n
		}
	}
	return -1
}

// put stores a line, and tells in which slot.
func (w *model) put(l api.Line, at int) int {
	to := w.slot(l.Asid, l.Page)
	for n := 0; n < 8 && to == -1; n++ {
		if w.slots[n] == nil {
			to = n
		}
	}
	if to == -1 {
		to = at
	}
	w.slots[to] = &l
	return to
}

// word is that at an index of a table, as a number of which the parts are
// looked at; false if there is no such frame, or the word can't be an entry.
func (w *model) word(frame, place int) (uint64, bool) {
	if frame >= w.frames() {
		return 0, false
	}
	x := w.words[16*frame+place]
	return x, x < 65536 && slices.Contains([]uint64{1, 3, 5}, x%256)
}

// walk is the frame to which the tables lead, and whether it may be written;
// false if they lead to none that exists.
func (w *model) walk(page int) (frame int, write, is bool) {
	first, is := w.word(w.root, page/256)
	if !is || first%256 != 5 {
		return 0, false, false
	}
	second, is := w.word(int(first/256), page/16%16)
	if !is || second%256 != 5 {
		return 0, false, false
	}
	third, is := w.word(int(second/256), page%16)
	if !is || third%256 == 5 || int(third/256) >= w.frames() {
		return 0, false, false
	}
	return int(third / 256), third%256 == 3, true
}

// find is what Find must answer; a line that it puts is in the slots then.
func (w *model) find(addr int, write bool, at int) (frame, place int, e api.Errno) {
	if w.asid == 0 || addr < 0 || addr > 65535 || at < 0 || at > 7 {
		return 0, 0, api.ErrArg
	}
	n := w.slot(w.asid, addr/16)
	if n == -1 {
		frame, can, is := w.walk(addr / 16)
		if !is {
			return 0, 0, api.ErrFault
		}
		n = w.put(api.Line{Asid: w.asid, Page: addr / 16, Frame: frame, Write: can}, at)
	}
	if write && !w.slots[n].Write {
		return 0, 0, api.ErrPerm
	}
	if w.slots[n].Frame >= w.frames() {
		return 0, 0, api.ErrFault
	}
	return w.slots[n].Frame, addr % 16, api.OK
}

// load is what Load must answer.
func (w *model) load(addr, at int) (uint64, api.Errno) {
	frame, place, e := w.find(addr, false, at)
	if e != api.OK {
		return 0, e
	}
	return w.words[16*frame+place], api.OK
}

// store is what Store must answer.
func (w *model) store(addr int, x uint64, at int) api.Errno {
	frame, place, e := w.find(addr, true, at)
	if e == api.OK {
		w.words[16*frame+place] = x
	}
	return e
}

// use is what Use must answer.
func (w *model) use(root, asid int) api.Errno {
	if root < 0 || root >= w.frames() || asid < 1 || asid > 8 {
		return api.ErrArg
	}
	w.root, w.asid = root, asid
	return api.OK
}

// bench is a unit with its memory and its buffer, and what they must hold.
type bench struct {
	*testing.T
	m *memory.Memory
	b *tlb.Buffer
	u *mmu.Unit
	w *model
}

// start is a new unit, of a memory with so many frames, and an empty buffer.
func start(t *testing.T, frames int) *bench {
	t.Helper()
	m, e := memory.New(frames)
	if e != api.OK {
		t.Fatalf("memory.New(%d): error %d", frames, e)
	}
	b := tlb.New()
	u, e := mmu.New(m, b)
	if u == nil || e != api.OK {
		t.Fatalf("New(m, b) = %v, %d, want a unit, OK", u, e)
	}
	return &bench{T: t, m: m, b: b, u: u, w: &model{words: make([]uint64, 16*frames)}}
}

// holds holds the words of the memory and the lines of the buffer against those
// that must be there.
func (x *bench) holds() {
	x.Helper()
	if got, want := x.b.Lines(), x.w.lines(); !slices.Equal(got, want) {
		x.Fatalf("the lines are %+v, want %+v", got, want)
	}
	for addr, want := range x.w.words {
		if got, _ := x.m.Read(addr); got != want {
			x.Fatalf("the word at %d of the memory is %d, want %d", addr, got, want)
		}
	}
}

// write stores a word in the memory.
func (x *bench) write(addr int, w uint64) {
	x.Helper()
	if e := x.m.Write(addr, w); e != api.OK {
		x.Fatalf("the test is wrong: Write(%d): error %d", addr, e)
	}
	x.w.words[addr] = w
}

// entry stores an entry in the memory.
func (x *bench) entry(frame, place int, e api.Entry) {
	x.Helper()
	if err := walk.Put(x.m, frame, place, e); err != api.OK {
		x.Fatalf("the test is wrong: Put(%d, %d, %+v): error %d", frame, place, e, err)
	}
	x.w.words[16*frame+place], _ = x.m.Read(16*frame + place)
}

// page stores the entry of a page, in the tables that are root and the two
// frames after it: pages with the same last digit, base 16, have the same one.
func (x *bench) page(root, page int, e api.Entry) {
	x.Helper()
	x.entry(root, page/256, table(root+1))
	x.entry(root+1, page/16%16, table(root+2))
	x.entry(root+2, page%16, e)
}

// put puts a line in the buffer, where it must get into slot to.
func (x *bench) put(l api.Line, at, to int) {
	x.Helper()
	if e := x.b.Put(l, at); e != api.OK {
		x.Fatalf("the test is wrong: Put(%+v, %d): error %d", l, at, e)
	}
	if n := x.w.put(l, at); n != to {
		x.Fatalf("the test is wrong: Put(%+v, %d): slot %d, not %d", l, at, n, to)
	}
}

// fill puts lines of address space 8 in slots that are empty: in slot n, that
// of page 4000+n.
func (x *bench) fill(many int) {
	x.Helper()
	for n := range many {
		x.put(line(8, 4000+n, 1), 0, n)
	}
}

// drop removes the line in a slot.
func (x *bench) drop(slot int) {
	x.Helper()
	l := x.w.slots[slot]
	if l == nil || !x.b.Drop(l.Asid, l.Page) {
		x.Fatalf("the test is wrong: slot %d is empty", slot)
	}
	x.w.slots[slot] = nil
}

// flush removes the lines of an address space.
func (x *bench) flush(asid int) {
	x.b.Flush(asid)
	for n, l := range x.w.slots {
		if l != nil && l.Asid == asid {
			x.w.slots[n] = nil
		}
	}
}

// use calls Use, which must answer e, and holds all against the model.
func (x *bench) use(root, asid int, e api.Errno) {
	x.Helper()
	if want := x.w.use(root, asid); want != e {
		x.Fatalf("the test is wrong: Use(%d, %d): %d or %d", root, asid, want, e)
	}
	if got := x.u.Use(root, asid); got != e {
		x.Fatalf("Use(%d, %d) = %d, want %d", root, asid, got, e)
	}
	x.holds()
}

// found calls Find, which must answer that place, and holds all against the
// model.
func (x *bench) found(addr int, write bool, at, frame, place int) {
	x.Helper()
	if f, p, e := x.w.find(addr, write, at); f != frame || p != place || e != api.OK {
		x.Fatalf("the test is wrong: Find(%d, %v, %d): %d, %d, %d or %d, %d, OK", addr, write, at, f, p, e, frame, place)
	}
	if f, p, e := x.u.Find(addr, write, at); f != frame || p != place || e != api.OK {
		x.Fatalf("Find(%d, %v, %d) = %d, %d, %d, want %d, %d, OK", addr, write, at, f, p, e, frame, place)
	}
	x.holds()
}

// fails calls Find, which must answer that error, and holds all against the
// model.
func (x *bench) fails(addr int, write bool, at int, e api.Errno) {
	x.Helper()
	if _, _, want := x.w.find(addr, write, at); want != e {
		x.Fatalf("the test is wrong: Find(%d, %v, %d): %d or %d", addr, write, at, want, e)
	}
	if f, p, got := x.u.Find(addr, write, at); f != 0 || p != 0 || got != e {
		x.Fatalf("Find(%d, %v, %d) = %d, %d, %d, want 0, 0, %d", addr, write, at, f, p, got, e)
	}
	x.holds()
}

// load calls Load, which must answer w and e, and holds all against the model.
func (x *bench) load(addr, at int, w uint64, e api.Errno) {
	x.Helper()
	if want, wantErr := x.w.load(addr, at); want != w || wantErr != e {
		x.Fatalf("the test is wrong: Load(%d, %d): %d, %d or %d, %d", addr, at, want, wantErr, w, e)
	}
	if got, err := x.u.Load(addr, at); got != w || err != e {
		x.Fatalf("Load(%d, %d) = %d, %d, want %d, %d", addr, at, got, err, w, e)
	}
	x.holds()
}

// store calls Store, which must answer e, and holds all against the model.
func (x *bench) store(addr int, w uint64, at int, e api.Errno) {
	x.Helper()
	if want := x.w.store(addr, w, at); want != e {
		x.Fatalf("the test is wrong: Store(%d, %d, %d): %d or %d", addr, w, at, want, e)
	}
	if got := x.u.Store(addr, w, at); got != e {
		x.Fatalf("Store(%d, %d, %d) = %d, want %d", addr, w, at, got, e)
	}
	x.holds()
}

// same calls Find, holds what it answers, and the lines, against the model, and
// tells the error.
func (x *bench) same(addr int, write bool, at int) api.Errno {
	x.Helper()
	frame, place, want := x.w.find(addr, write, at)
	if f, p, e := x.u.Find(addr, write, at); f != frame || p != place || e != want {
		x.Fatalf("Find(%d, %v, %d) = %d, %d, %d, want %d, %d, %d", addr, write, at, f, p, e, frame, place, want)
	}
	if got, want := x.b.Lines(), x.w.lines(); !slices.Equal(got, want) {
		x.Fatalf("after Find(%d, %v, %d), the lines are %+v, want %+v", addr, write, at, got, want)
	}
	return want
}

// The document's examples: an address whose page is not mapped, and one of a
// page that is not writable.
func TestExamples(t *testing.T) {
	x := start(t, 8)
	x.page(0, 0x123, readable(7))
	x.write(16*7+5, 99)
	x.use(0, 1, api.OK)
	x.load(0x1240, 0, 0, api.ErrFault)
	x.store(0x1240, 1, 0, api.ErrFault)
	x.load(0x1235, 0, 99, api.OK)
	x.store(0x1235, 1, 0, api.ErrPerm)
	x.load(0x1235, 0, 99, api.OK)
}

// P11.1: New with one and with both of its arguments nil.
func TestNewNeedsBoth(t *testing.T) {
	m, _ := memory.New(1)
	b := tlb.New()
	if u, e := mmu.New(nil, b); u != nil || e != api.ErrArg {
		t.Errorf("New(nil, b) = %v, %d, want nil, ErrArg", u, e)
	}
	if u, e := mmu.New(m, nil); u != nil || e != api.ErrArg {
		t.Errorf("New(m, nil) = %v, %d, want nil, ErrArg", u, e)
	}
	if u, e := mmu.New(nil, nil); u != nil || e != api.ErrArg {
		t.Errorf("New(nil, nil) = %v, %d, want nil, ErrArg", u, e)
	}
	if u, e := mmu.New(m, b); u == nil || e != api.OK {
		t.Errorf("New(m, b) = %v, %d, want a unit, OK", u, e)
	}
}

// P11.1 and P11.2: ahead of any Use there is no address space: not that with
// the root 0 either, or with lines of asid 0, 1 or 8.
func TestNoAddressSpace(t *testing.T) {
	x := start(t, 8)
	x.page(0, 0x123, writable(7))
	x.put(open(1, 0, 3), 0, 0)
	x.put(open(1, 0x123, 7), 0, 1)
	x.put(open(8, 0, 3), 0, 2)
	for _, addr := range append([]int{0x1230, 0x1234}, edges...) {
		for _, at := range edges {
			for _, write := range []bool{false, true} {
				if f, p, e := x.u.Find(addr, write, at); f != 0 || p != 0 || e != api.ErrArg {
					t.Fatalf("Find(%d, %v, %d) = %d, %d, %d, want 0, 0, ErrArg", addr, write, at, f, p, e)
				}
			}
			if w, e := x.u.Load(addr, at); w != 0 || e != api.ErrArg {
				t.Fatalf("Load(%d, %d) = %d, %d, want 0, ErrArg", addr, at, w, e)
			}
			if e := x.u.Store(addr, 1, at); e != api.ErrArg {
				t.Fatalf("Store(%d, 1, %d) = %d, want ErrArg", addr, at, e)
			}
		}
	}
	x.holds()
	x.fails(0x1230, true, 0, api.ErrArg)
	x.use(0, 0, api.ErrArg)
	x.use(8, 1, api.ErrArg)
	x.fails(0x1230, true, 0, api.ErrArg)
	x.use(0, 2, api.OK)
	x.found(0x1234, true, 0, 7, 4)
}

// P11.1: the bounds of a root and of an asid; of memories of one frame, of some
// and of all that there can be.
func TestBoundsOfUse(t *testing.T) {
	for _, frames := range []int{1, 2, 8, 255, 256} {
		for _, root := range []int{math.MinInt, -1, 0, frames - 1, frames, frames + 1, 256, math.MaxInt} {
			for _, asid := range []int{math.MinInt, -1, 0, 1, 8, 9, math.MaxInt} {
				x := start(t, frames)
				want := api.OK
				if root < 0 || root >= frames || asid < 1 || asid > 8 {
					want = api.ErrArg
				}
				x.use(root, asid, want)
				if want == api.OK {
					x.fails(0, false, 0, api.ErrFault)
				} else {
					x.fails(0, false, 0, api.ErrArg)
				}
			}
		}
	}
}

// P11.1 and P0: each pair of edges; the address space that is current behind an
// error is the one before.
func TestAllEdgesOfUse(t *testing.T) {
	x := start(t, 9)
	x.page(0, 5, writable(7))
	x.page(3, 5, readable(8))
	x.use(3, 8, api.OK)
	for _, root := range edges {
		for _, asid := range edges {
			want := x.w.use(root, asid)
			if e := x.u.Use(root, asid); e != want {
				t.Fatalf("Use(%d, %d) = %d, want %d", root, asid, e, want)
			}
			x.same(0x50, true, 0)
			x.same(0x51, false, 0)
		}
	}
	x.holds()
}

// P11.1 and R1: behind a Use that returns an error, both the root and the asid
// are as they were.
func TestUseThatFailsChangesNothing(t *testing.T) {
	x := start(t, 9)
	x.page(0, 5, writable(7))
	x.page(3, 5, readable(8))
	x.use(0, 2, api.OK)
	for _, wrong := range [][2]int{{3, 0}, {3, 9}, {3, -2}, {3, math.MaxInt}, {3, math.MinInt}, {9, 3}, {-1, 3}, {256, 3}, {math.MaxInt, 3}, {math.MinInt, 3}, {9, 9}, {-1, 0}} {
		x.use(wrong[0], wrong[1], api.ErrArg)
		x.found(0x5F, true, 0, 7, 15)
		if got := x.b.Lines(); !slices.Equal(got, []api.Line{open(2, 5, 7)}) {
			t.Fatalf("behind Use(%d, %d), the line is %+v", wrong[0], wrong[1], got)
		}
		x.drop(0)
	}
	x.use(3, 3, api.OK)
	x.found(0x5F, false, 0, 8, 15)
	x.put(line(2, 5, 1), 0, 1)
	x.use(3, 9, api.ErrArg)
	x.found(0x5F, false, 0, 8, 15)
}

// P11.1 and P11.2: each asid and each root is used as it is; and each may be
// used again.
func TestEachAddressSpace(t *testing.T) {
	x := start(t, 40)
	for asid := 1; asid <= 8; asid++ {
		x.page(3*asid, 0x77, writable(30+asid))
		x.use(3*asid, asid, api.OK)
		x.found(0x773, true, 7, 30+asid, 3)
	}
	for asid := 8; asid >= 1; asid-- {
		if got := x.b.Lines()[asid-1]; got != open(asid, 0x77, 30+asid) {
			t.Errorf("the line in slot %d is %+v", asid-1, got)
		}
		x.use(3*asid, asid, api.OK)
		x.found(0x77A, true, 7, 30+asid, 10)
	}
}

// P11.2: Use of another root with the same asid, or of the same root with
// another asid: the line in the buffer is used for its asid alone, whatever the
// root is.
func TestLinesAreOfAnAsid(t *testing.T) {
	x := start(t, 9)
	x.page(0, 5, writable(7))
	x.page(3, 5, readable(8))
	x.use(0, 2, api.OK)
	x.found(0x50, true, 0, 7, 0)
	x.use(3, 2, api.OK)
	x.found(0x50, true, 0, 7, 0)
	x.use(3, 4, api.OK)
	x.found(0x50, false, 0, 8, 0)
	x.fails(0x50, true, 0, api.ErrPerm)
	x.use(0, 4, api.OK)
	x.fails(0x50, true, 0, api.ErrPerm)
	x.use(6, 2, api.OK)
	x.found(0x51, false, 0, 7, 1)
	x.use(6, 3, api.OK)
	x.fails(0x51, false, 0, api.ErrFault)
}

// P11.2: the same page under two asids: two lines, and neither is used for the
// other one.
func TestSamePageUnderTwoAsids(t *testing.T) {
	x := start(t, 9)
	x.page(0, 0xABC, writable(7))
	x.page(3, 0xABC, readable(8))
	x.use(0, 1, api.OK)
	x.store(0xABC4, 70, 0, api.OK)
	x.use(3, 2, api.OK)
	x.store(0xABC4, 80, 0, api.ErrPerm)
	x.load(0xABC4, 0, 0, api.OK)
	x.use(0, 1, api.OK)
	x.load(0xABC4, 0, 70, api.OK)
	if got := x.b.Lines(); !slices.Equal(got, []api.Line{open(1, 0xABC, 7), line(2, 0xABC, 8)}) {
		t.Errorf("the lines are %+v", got)
	}
	x.flush(1)
	x.entry(2, 12, api.Entry{})
	x.load(0xABC4, 0, 0, api.ErrFault)
	x.use(3, 2, api.OK)
	x.load(0xABC4, 0, 0, api.OK)
}

// P11.2: the addresses and slots on both sides of their bounds, of a page that
// is mapped and of one that is not, with the line in the buffer and without.
func TestBoundsOfFind(t *testing.T) {
	for _, addr := range []int{math.MinInt, -65536, -16, -1, 0, 15, 16, 65519, 65520, 65535, 65536, 131072, math.MaxInt} {
		for _, at := range []int{math.MinInt, -8, -1, 0, 7, 8, 15, math.MaxInt} {
			for _, write := range []bool{false, true} {
				x := start(t, 10)
				x.page(0, 0, writable(8))
				x.entry(0, 15, table(3))
				x.entry(3, 15, table(4))
				x.entry(4, 15, writable(9))
				x.use(0, 1, api.OK)
				for range 2 {
					switch {
					case addr < 0 || addr > 65535 || at < 0 || at > 7:
						x.fails(addr, write, at, api.ErrArg)
					case addr < 16:
						x.found(addr, write, at, 8, addr)
					case addr >= 65520:
						x.found(addr, write, at, 9, addr-65520)
					default:
						x.fails(addr, write, at, api.ErrFault)
					}
				}
			}
		}
	}
}

// P11.2 and P0: all edges of an address and of a slot: with nothing mapped,
// with a page, and with lines in the buffer.
func TestAllEdgesOfFind(t *testing.T) {
	x := start(t, 9)
	x.use(0, 1, api.OK)
	for round := range 3 {
		switch round {
		case 1:
			x.page(0, 0, writable(7))
			x.entry(0, 15, table(3))
			x.entry(3, 15, table(4))
			x.entry(4, 15, readable(8))
		case 2:
			x.put(line(1, 1, 200), 0, 2)
			x.put(open(1, 255, 6), 1, 3)
		}
		for _, addr := range edges {
			for _, at := range edges {
				x.same(addr, false, at)
				x.same(addr, true, at)
				want, wantErr := x.w.load(addr, at)
				if w, e := x.u.Load(addr, at); w != want || e != wantErr {
					t.Fatalf("Load(%d, %d) = %d, %d, want %d, %d", addr, at, w, e, want, wantErr)
				}
				wantErr = x.w.store(addr, uint64(addr), at)
				if e := x.u.Store(addr, uint64(addr), at); e != wantErr {
					t.Fatalf("Store(%d, %d, %d) = %d, want %d", addr, uint64(addr), at, e, wantErr)
				}
			}
		}
		x.holds()
	}
}

// P11.2: at is asked about also where the line is in the buffer, or a slot is
// empty.
func TestSlotIsCheckedWhereItIsNotNeeded(t *testing.T) {
	x := start(t, 8)
	x.page(0, 5, writable(7))
	x.use(0, 1, api.OK)
	for _, at := range []int{math.MinInt, -1, 8, 9, 16, 256, math.MaxInt} {
		x.fails(0x50, false, at, api.ErrArg)
		x.fails(0x60, false, at, api.ErrArg)
		x.load(0x50, at, 0, api.ErrArg)
		x.store(0x50, 1, at, api.ErrArg)
	}
	x.found(0x50, false, 3, 7, 0)
	for _, at := range []int{math.MinInt, -1, 8, 9, 16, 256, math.MaxInt} {
		x.fails(0x50, false, at, api.ErrArg)
		x.fails(0x50, true, at, api.ErrArg)
	}
}

// P11.2: a walk that ends at each level: at an entry that is not valid, at one
// of the wrong kind, at a table that the memory has not, and at a word that is
// not that of an entry. All of them are ErrFault, for a read and for a write,
// and no line is put.
func TestWalksThatEnd(t *testing.T) {
	for level, places := range []int{0xA, 0xB, 0xC} {
		next := []uint64{5 + 256, 5 + 512, 3 + 1792}[level]
		bad := []uint64{0, 2, 4, 7, 8, 256, 1792, next | 2 | 4, next | 8, next | 128, next | 65536, next | 1<<32, next | 1<<63, math.MaxUint64}
		if level < 2 {
			bad = append(bad, 1+256, 3+256, 1+1792, 3+1792, 5+256*8, 5+256*9, 5+256*255)
		} else {
			bad = append(bad, 5, 5+1792, 5+256*8, 1+256*8, 3+256*8, 1+256*255, 3+256*255)
		}
		for _, w := range bad {
			x := start(t, 8)
			x.page(0, 0xABC, writable(7))
			x.write(16*level+places, w)
			x.use(0, 3, api.OK)
			for _, write := range []bool{false, true, false} {
				x.fails(0xABC5, write, 2, api.ErrFault)
			}
			x.load(0xABC5, 2, 0, api.ErrFault)
			x.store(0xABC5, 9, 2, api.ErrFault)
			if got := x.b.Lines(); len(got) != 0 {
				t.Errorf("level %d, word %d: the lines are %+v, want none", level, w, got)
			}
			x.write(16*level+places, next)
			x.found(0xABC5, true, 2, 7, 5)
		}
	}
}

// P11.2: entries of pages, with each Frame, that may be written and may not,
// for a read and for a write, in memories that have the Frame and have not.
func TestEachFrameOfAnEntry(t *testing.T) {
	for _, frames := range []int{3, 8, 200, 256} {
		x := start(t, frames)
		x.use(0, 5, api.OK)
		for frame := range 256 {
			x.page(0, 0x321, readable(frame))
			for _, write := range []bool{true, false} {
				x.flush(5)
				switch {
				case frame >= frames:
					x.fails(0x3217, write, 0, api.ErrFault)
				case write:
					x.fails(0x3217, write, 0, api.ErrPerm)
				default:
					x.found(0x3217, write, 0, frame, 7)
				}
			}
			x.page(0, 0x321, writable(frame))
			for _, write := range []bool{true, false} {
				x.flush(5)
				if frame >= frames {
					x.fails(0x3217, write, 0, api.ErrFault)
				} else {
					x.found(0x3217, write, 0, frame, 7)
				}
			}
		}
	}
}

// P11.2: the line of a walk has the asid, the page, and the Frame and Write of
// the entry; behind an OK, and behind an ErrPerm too.
func TestLineOfAWalk(t *testing.T) {
	for _, write := range []bool{false, true} {
		x := start(t, 8)
		x.page(0, 5, readable(6))
		x.entry(2, 6, writable(7))
		x.use(0, 4, api.OK)
		if write {
			x.fails(0x5F, true, 0, api.ErrPerm)
		} else {
			x.found(0x5F, false, 0, 6, 15)
		}
		x.found(0x60, write, 0, 7, 0)
		want := []api.Line{line(4, 5, 6), open(4, 6, 7)}
		if got := x.b.Lines(); !slices.Equal(got, want) {
			t.Errorf("the lines are %+v, want %+v", got, want)
		}
		x.entry(2, 5, api.Entry{})
		x.fails(0x50, true, 0, api.ErrPerm)
		x.found(0x50, false, 0, 6, 0)
	}
}

// P11.2: a line that the buffer has is used, whatever a walk would return: of
// another frame, of another Write, of a page that is not mapped, of tables that
// are no tables.
func TestLineOfTheBuffer(t *testing.T) {
	for _, e := range []api.Entry{{}, readable(6), writable(6), readable(7), writable(7), readable(255), table(7)} {
		for _, can := range []bool{false, true} {
			for _, broken := range []bool{false, true} {
				x := start(t, 8)
				x.page(0, 0xABC, e)
				if broken {
					x.write(10, math.MaxUint64)
				}
				x.put(api.Line{Asid: 2, Page: 0xABC, Frame: 7, Write: can}, 0, 0)
				x.use(0, 2, api.OK)
				x.found(0xABC9, false, 3, 7, 9)
				if can {
					x.found(0xABC9, true, 3, 7, 9)
					x.store(0xABC9, 5, 3, api.OK)
					x.load(0xABC9, 3, 5, api.OK)
				} else {
					x.fails(0xABC9, true, 3, api.ErrPerm)
					x.store(0xABC9, 5, 3, api.ErrPerm)
				}
				if got := x.b.Lines(); !slices.Equal(got, []api.Line{{Asid: 2, Page: 0xABC, Frame: 7, Write: can}}) {
					t.Errorf("%+v: the lines are %+v", e, got)
				}
			}
		}
	}
}

// P11.2: a line whose Frame the memory has not: ErrFault, unless it may not be
// written and a write is asked for: that is ErrPerm. The line stays, and no
// walk is made.
func TestLineWhoseFrameIsMissing(t *testing.T) {
	for _, frame := range []int{8, 9, 16, 200, 255} {
		x := start(t, 8)
		x.page(0, 5, writable(7))
		x.entry(2, 6, writable(7))
		x.put(open(3, 5, frame), 0, 0)
		x.put(line(3, 6, frame), 0, 1)
		x.use(0, 3, api.OK)
		for range 2 {
			x.fails(0x50, false, 4, api.ErrFault)
			x.fails(0x50, true, 4, api.ErrFault)
			x.fails(0x6F, false, 4, api.ErrFault)
			x.fails(0x6F, true, 4, api.ErrPerm)
			x.load(0x50, 4, 0, api.ErrFault)
			x.store(0x50, 9, 4, api.ErrFault)
			x.load(0x6F, 4, 0, api.ErrFault)
			x.store(0x6F, 9, 4, api.ErrPerm)
		}
		x.drop(0)
		x.found(0x50, true, 4, 7, 0)
	}
}

// P11.2: a line of frame 0 and page 0 is one, as is the entry of frame 0.
func TestFrameZero(t *testing.T) {
	x := start(t, 4)
	x.page(0, 0, readable(0))
	x.use(0, 1, api.OK)
	x.found(0, false, 0, 0, 0)
	x.fails(0, true, 0, api.ErrPerm)
	if got := x.b.Lines(); !slices.Equal(got, []api.Line{line(1, 0, 0)}) {
		t.Errorf("the lines are %+v", got)
	}
	x.entry(2, 0, api.Entry{})
	x.load(0, 0, x.w.words[0], api.OK)
	x.flush(1)
	x.fails(0, false, 0, api.ErrFault)
}

// P11.2: lines of other pages of the address space, and of other address
// spaces, are not used.
func TestLinesThatAreAlike(t *testing.T) {
	x := start(t, 8)
	x.page(0, 0x23, readable(7))
	for n, l := range []api.Line{open(2, 0x123, 6), open(2, 0x22, 5), open(2, 0x24, 4), open(1, 0x23, 3), open(3, 0x23, 2), open(2, 0x32, 1), open(2, 0x233, 0)} {
		x.put(l, 0, n)
	}
	x.use(0, 2, api.OK)
	x.fails(0x238, true, 0, api.ErrPerm)
	x.found(0x238, false, 0, 7, 8)
	if got := x.b.Lines()[7]; got != line(2, 0x23, 7) {
		t.Errorf("the line in slot 7 is %+v", got)
	}
	x.found(0x228, true, 0, 5, 8)
	x.found(0x1238, true, 0, 6, 8)
}

// P11.2: a line goes in the first empty slot, whatever at is; and if none is
// empty, in slot at, where it replaces a line.
func TestWhereLinesGo(t *testing.T) {
	for at := range 8 {
		for many := range 9 {
			x := start(t, 8)
			x.page(0, 5, readable(6))
			x.fill(many)
			x.use(0, 1, api.OK)
			slot := at
			if many < 8 {
				slot = many
			}
			if (at+many)%2 == 0 {
				x.fails(0x50, true, at, api.ErrPerm)
			} else {
				x.found(0x50, false, at, 6, 0)
			}
			if got := x.b.Lines()[slot]; got != line(1, 5, 6) {
				t.Errorf("at %d, behind %d lines: the line in slot %d is %+v", at, many, slot, got)
			}
		}
		for gap := range 8 {
			x := start(t, 8)
			x.page(0, 5, readable(6))
			x.fill(8)
			x.drop(gap)
			x.use(0, 1, api.OK)
			x.found(0x50, false, at, 6, 0)
			if got := x.b.Lines()[gap]; got != line(1, 5, 6) {
				t.Errorf("at %d: the line in the empty slot %d is %+v", at, gap, got)
			}
		}
	}
}

// P11.2: Load and Store put a line where Find does.
func TestWhereLinesGoByLoadAndStore(t *testing.T) {
	for at := range 8 {
		x := start(t, 8)
		x.page(0, 5, readable(6))
		x.entry(2, 6, writable(7))
		x.fill(8)
		x.use(0, 1, api.OK)
		x.load(0x50, at, 0, api.OK)
		x.store(0x60, 3, 7-at, api.OK)
		x.store(0x61, 4, at, api.OK)
		x.load(0x51, 7-at, 0, api.OK)
		if got := x.b.Lines(); got[at] != line(1, 5, 6) || got[7-at] != open(1, 6, 7) {
			t.Errorf("at %d: the lines are %+v", at, got)
		}
		x.entry(2, 7, readable(5))
		x.store(0x70, 3, at, api.ErrPerm)
		if got := x.b.Lines(); got[at] != line(1, 7, 5) {
			t.Errorf("at %d: the lines are %+v", at, got)
		}
	}
}

// P11.2: behind an ErrFault and an ErrArg, no line has gone and none has come,
// also in a full buffer; a page whose line is there replaces none.
func TestLinesThatStay(t *testing.T) {
	for at := range 8 {
		x := start(t, 8)
		x.page(0, 5, readable(6))
		x.entry(2, 6, readable(8))
		x.fill(8)
		x.put(line(1, 9, 7), at, at)
		x.use(0, 1, api.OK)
		for other := range 8 {
			x.fails(0x60, false, other, api.ErrFault)
			x.fails(0x60, true, other, api.ErrFault)
			x.fails(0x70, false, other, api.ErrFault)
			x.fails(0x5000, true, other, api.ErrFault)
			x.fails(-1, true, other, api.ErrArg)
			x.fails(65536, true, other, api.ErrArg)
			x.found(0x90, false, other, 7, 0)
			x.fails(0x90, true, other, api.ErrPerm)
			x.load(0x70, other, 0, api.ErrFault)
			x.store(0x70, 1, other, api.ErrFault)
		}
	}
}

// P11.2 and R1: a call that returns an error leaves the words, and the lines
// but the one of an ErrPerm, as they were, and the address space too.
func TestErrorsChangeNothing(t *testing.T) {
	x := start(t, 8)
	x.page(0, 5, readable(6))
	x.entry(2, 6, writable(7))
	x.write(16*6+3, 33)
	x.write(16*7+3, 44)
	x.use(0, 1, api.OK)
	x.store(0x53, 1, 0, api.ErrPerm)
	for _, n := range edges {
		if n < 0 || n > 65535 {
			x.load(n, 0, 0, api.ErrArg)
			x.store(n, 1, 0, api.ErrArg)
		}
		if n < 0 || n > 7 {
			x.load(0x63, n, 0, api.ErrArg)
			x.store(0x63, 1, n, api.ErrArg)
		}
		if n < 0 || n > 8 {
			x.use(n, 1, api.ErrArg)
			x.use(3, n, api.ErrArg)
		}
	}
	x.store(0x73, 1, 0, api.ErrFault)
	x.load(0x53, 0, 33, api.OK)
	x.load(0x63, 0, 44, api.OK)
}

// P11.2: each address of an address space, with the pages spread over tables;
// the offset is that in the page.
func TestEachAddress(t *testing.T) {
	x := start(t, 64)
	for n := range 16 {
		x.entry(0, n, table(1+n%8))
		for k := range 8 {
			x.entry(1+k, n, table(9+(n+3*k)%20))
		}
		for k := range 20 {
			e := readable((n*7 + k*13) % 70)
			e.Write = (n+k)%3 != 0
			x.entry(9+k, n, e)
		}
	}
	x.use(0, 6, api.OK)
	for addr := range 65536 {
		x.same(addr, addr%2 == 0, addr/16%8)
		if addr%16 == 7 {
			x.same(addr, addr%2 != 0, addr%8)
		}
	}
	x.holds()
}

// P11.3: the first and the last word of a page, and of the memory; each place
// is loaded from where it was stored, and no other word changes.
func TestWordsOfAPage(t *testing.T) {
	x := start(t, 8)
	x.page(0, 0xFFF, writable(7))
	x.entry(0, 0, table(3))
	x.entry(3, 0, table(4))
	x.entry(4, 0, writable(5))
	x.use(0, 1, api.OK)
	for n, w := range []uint64{0, 1, math.MaxUint64, 1 << 63, 0xABCD} {
		x.store(0, w, 0, api.OK)
		x.store(15, ^w, 0, api.OK)
		x.store(65520, w+7, 0, api.OK)
		x.store(65535, w+8, 0, api.OK)
		x.load(0, 0, w, api.OK)
		x.load(15, 0, ^w, api.OK)
		x.load(65520, 0, w+7, api.OK)
		x.load(65535, 0, w+8, api.OK)
		x.load(1+n, 0, x.w.words[16*5+1+n], api.OK)
	}
	for place := range 16 {
		x.store(place, uint64(100+place), 0, api.OK)
		x.store(65520+place, uint64(200+place), 0, api.OK)
	}
	for place := range 16 {
		x.load(place, 0, uint64(100+place), api.OK)
		x.load(65520+place, 0, uint64(200+place), api.OK)
		if w, _ := x.m.Read(16*7 + place); w != uint64(200+place) {
			t.Errorf("the word at place %d of frame 7 is %d", place, w)
		}
	}
	x.store(16, 1, 0, api.ErrFault)
	x.store(65519, 1, 0, api.ErrFault)
}

// P11.3: Load is of the memory as it is: a word that was written to it, with
// the line in the buffer, is loaded.
func TestLoadIsOfTheMemory(t *testing.T) {
	x := start(t, 8)
	x.page(0, 5, readable(7))
	x.use(0, 1, api.OK)
	x.load(0x52, 0, 0, api.OK)
	x.write(16*7+2, 12)
	x.load(0x52, 0, 12, api.OK)
	if e := x.m.Scrub(7, 1); e != api.OK {
		t.Fatal(e)
	}
	x.w.words[16*7+2] = 0
	x.load(0x52, 0, 0, api.OK)
}

// P11.3 and P11.4: a word that is stored is loaded through each address of it:
// of the same page, of other pages, and of other address spaces.
func TestOtherAddressesOfAWord(t *testing.T) {
	x := start(t, 12)
	x.page(0, 0x005, writable(9))
	x.entry(0, 7, table(1))
	x.entry(1, 3, table(2))
	x.entry(2, 6, readable(9))
	x.entry(2, 8, writable(10))
	x.page(4, 0xFF6, writable(9))
	type place struct{ root, asid, addr int }
	all := []place{{0, 1, 0x50}, {0, 1, 0x60}, {0, 1, 0x7350}, {0, 1, 0x7060}, {0, 1, 0x350}, {4, 2, 0xFF60}}
	for n, from := range all {
		for offset := range 16 {
			w := uint64(1000*n + offset + 1)
			x.use(from.root, from.asid, api.OK)
			if from.addr&0xF0 == 0x60 && from.root == 0 {
				x.store(from.addr+offset, w, n, api.ErrPerm)
				continue
			}
			x.store(from.addr+offset, w, n, api.OK)
			for k, to := range all {
				x.use(to.root, to.asid, api.OK)
				x.load(to.addr+offset, k, w, api.OK)
			}
			x.use(0, 1, api.OK)
			x.load(0x80+offset, 0, 0, api.OK)
		}
	}
}

// P11.3: a page may be a frame with tables: what is stored there is what the
// next walk reads.
func TestPageOfATable(t *testing.T) {
	x := start(t, 8)
	x.page(0, 1, writable(2))
	x.use(0, 1, api.OK)
	x.fails(0x70, false, 0, api.ErrFault)
	x.store(0x17, 3+256*6, 0, api.OK)
	x.found(0x7C, true, 0, 6, 12)
	x.store(0x17, 0, 0, api.OK)
	x.found(0x7C, true, 0, 6, 12)
	x.flush(1)
	x.fails(0x7C, false, 0, api.ErrFault)
	x.store(0x11, 1+256*2, 0, api.OK)
	x.store(0x11, 3+256*7, 0, api.OK)
	x.flush(1)
	x.found(0x11, true, 0, 7, 1)
}

// P11.1: a unit uses the lines that were in the buffer ahead of it, and shares
// its buffer with others, but not its address space.
func TestTwoUnits(t *testing.T) {
	x := start(t, 9)
	x.page(0, 5, writable(7))
	x.page(3, 6, readable(8))
	x.put(open(2, 0x99, 7), 0, 0)
	x.use(0, 1, api.OK)
	u, e := mmu.New(x.m, x.b)
	if e != api.OK {
		t.Fatal(e)
	}
	if _, _, e := u.Find(0x50, false, 0); e != api.ErrArg {
		t.Errorf("Find of a unit without an address space: %d, want ErrArg", e)
	}
	if e := u.Use(3, 2); e != api.OK {
		t.Errorf("Use(3, 2) = %d, want OK", e)
	}
	x.found(0x5A, true, 0, 7, 10)
	y := &bench{T: t, m: x.m, b: x.b, u: u, w: &model{words: x.w.words, slots: x.w.slots, root: 3, asid: 2}}
	y.found(0x999, true, 0, 7, 9)
	y.found(0x6A, false, 0, 8, 10)
	y.fails(0x5A, false, 0, api.ErrFault)
	x.w.slots = y.w.slots
	x.found(0x5B, true, 0, 7, 11)
	x.fails(0x999, true, 0, api.ErrFault)
	apart := start(t, 9)
	apart.use(0, 2, api.OK)
	apart.fails(0x999, true, 0, api.ErrFault)
	apart.fails(0x5B, true, 0, api.ErrFault)
	x.holds()
}

// R4: the same calls give the same answers; Find of what is in the buffer
// changes nothing.
func TestSameCallsSameAnswers(t *testing.T) {
	x, y := start(t, 16), start(t, 16)
	for _, b := range []*bench{x, y} {
		for n := range 16 {
			b.page(0, n, writable(n))
		}
		b.use(0, 1, api.OK)
	}
	for n := range 500 {
		addr, at := n*n%300, n*3%8
		f, p, e := x.u.Find(addr, true, at)
		for range 3 {
			g, q, f2 := y.u.Find(addr, true, at)
			if f != g || p != q || e != f2 {
				t.Fatalf("Find(%d, true, %d) = %d, %d, %d and %d, %d, %d", addr, at, f, p, e, g, q, f2)
			}
		}
		if !slices.Equal(x.b.Lines(), y.b.Lines()) {
			t.Fatalf("after Find(%d, true, %d): %+v and %+v", addr, at, x.b.Lines(), y.b.Lines())
		}
	}
}

// dice gives numbers by a rule; it is the rule's state.
type dice uint64

// roll is the next number below many.
func (d *dice) roll(many int) int {
	*d = *d*6364136223846793005 + 1442695040888963407
	return int(*d >> 33 % dice(many))
}

// word is one that is often an entry, of a frame that is often there.
func (d *dice) word(frames int) uint64 {
	low := []uint64{1, 1, 1, 3, 5, 5, 5, 5, 5, 7}[d.roll(10)]
	return low + 256*uint64(d.roll(frames+1))
}

// P11.1 to P11.3: long mixtures of calls on memories with words of all kinds,
// on few pages, with lines that others put and remove, against the model.
func TestMixtures(t *testing.T) {
	counts := map[api.Errno]int{}
	for seed := range 40 {
		d, frames := dice(seed), 6+seed%6
		x := start(t, frames)
		for addr := range x.w.words {
			x.write(addr, d.word(frames))
		}
		for place := range 4 {
			for _, frame := range []int{0, 1, 3, 4} {
				x.entry(frame, place, table(frame+1))
			}
		}
		for range 500 {
			x.call(&d, counts)
		}
		x.holds()
	}
	for _, e := range []api.Errno{api.OK, api.ErrArg, api.ErrPerm, api.ErrFault} {
		if counts[e] < 1000 {
			t.Errorf("only %d calls answered %d", counts[e], e)
		}
	}
}

// call makes one call that the dice choose, and counts what it answers.
func (x *bench) call(d *dice, counts map[api.Errno]int) {
	x.Helper()
	frames := x.w.frames()
	addr, at := 0x1110*d.roll(4)+d.roll(49)-1, d.roll(9)
	switch pick := d.roll(100); {
	case pick < 40:
		counts[x.same(addr, pick%2 == 0, at)]++
	case pick < 60:
		want, e := x.w.load(addr, at)
		if w, got := x.u.Load(addr, at); w != want || got != e {
			x.Fatalf("Load(%d, %d) = %d, %d, want %d, %d", addr, at, w, got, want, e)
		}
		counts[e]++
	case pick < 80:
		w := d.word(frames)
		e := x.w.store(addr, w, at)
		if got := x.u.Store(addr, w, at); got != e {
			x.Fatalf("Store(%d, %d, %d) = %d, want %d", addr, w, at, got, e)
		}
		counts[e]++
	case pick < 90:
		root, asid := []int{0, 3, d.roll(frames+2) - 1}[d.roll(3)], d.roll(5)
		e := x.w.use(root, asid)
		if got := x.u.Use(root, asid); got != e {
			x.Fatalf("Use(%d, %d) = %d, want %d", root, asid, got, e)
		}
		counts[e]++
	case pick < 94:
		l := api.Line{Asid: 1 + d.roll(5), Page: 0x111*d.roll(4) + d.roll(3), Frame: d.roll(frames + 2), Write: d.roll(2) == 0}
		x.w.put(l, at%8)
		if e := x.b.Put(l, at%8); e != api.OK {
			x.Fatalf("the test is wrong: Put(%+v, %d): error %d", l, at%8, e)
		}
	case pick < 96:
		x.write(d.roll(16*frames), d.word(frames))
	default:
		x.flush(1 + d.roll(4))
	}
	if got, want := x.b.Lines(), x.w.lines(); !slices.Equal(got, want) {
		x.Fatalf("the lines are %+v, want %+v", got, want)
	}
}

// system is two address spaces in one memory, with one unit and one buffer; and
// what the pages of each are.
type system struct {
	*testing.T
	m      *memory.Memory
	b      *tlb.Buffer
	u      *mmu.Unit
	spaces [2]*tables.Space
	pages  [2]map[int]api.Entry
	words  map[int]uint64
}

// built is a system of 64 frames, of which the last 32 are those of the pages.
func built(t *testing.T) *system {
	t.Helper()
	s := &system{T: t, b: tlb.New(), words: map[int]uint64{}}
	m, e := memory.New(64)
	if e != api.OK {
		t.Fatal(e)
	}
	d, e := buddy.New(m, 0)
	if e != api.OK {
		t.Fatal(e)
	}
	if frame, e := d.Alloc(5); frame != 0 || e != api.OK {
		t.Fatalf("the test is wrong: Alloc(5) = %d, %d", frame, e)
	}
	s.m = m
	for n := range s.spaces {
		s.pages[n] = map[int]api.Entry{}
		if s.spaces[n], e = tables.New(m, d); e != api.OK {
			t.Fatal(e)
		}
	}
	if s.u, e = mmu.New(m, s.b); e != api.OK {
		t.Fatal(e)
	}
	return s
}

// change changes one page of a space, and flushes the lines of that space, of
// which the asid is its number plus 3.
func (s *system) change(d *dice, n, page int) {
	s.Helper()
	frame, write := d.roll(32), d.roll(2) == 0
	x, mapped := s.pages[n][page]
	e := api.OK
	switch pick := d.roll(3); {
	case !mapped:
		if e = s.spaces[n].Map(page, frame, write); e == api.OK {
			s.pages[n][page] = api.Entry{Valid: true, Write: write, Frame: frame}
		}
	case pick == 0:
		x.Write = write
		s.pages[n][page] = x
		e = s.spaces[n].Protect(page, write)
	default:
		delete(s.pages[n], page)
		_, e = s.spaces[n].Unmap(page)
	}
	if e != api.OK && e != api.ErrMem {
		s.Fatalf("the test is wrong: a change of page %d: error %d", page, e)
	}
	s.b.Flush(n + 3)
}

// check holds what Find, Load and Store answer of a place in a page of a space
// against its pages, and Find against a walk.
func (s *system) check(d *dice, n, page int) {
	s.Helper()
	if e := s.u.Use(s.spaces[n].Root(), n+3); e != api.OK {
		s.Fatalf("Use(%d, %d) = %d", s.spaces[n].Root(), n+3, e)
	}
	offset, at, write := d.roll(16), d.roll(8), d.roll(2) == 0
	x, _, err := walk.Walk(s.m, s.spaces[n].Root(), page)
	frame, place, want := x.Frame, offset, err
	if want == api.OK && write && !x.Write {
		want = api.ErrPerm
	}
	if want != api.OK {
		frame, place = 0, 0
	}
	if f, p, e := s.u.Find(16*page+offset, write, at); f != frame || p != place || e != want {
		s.Fatalf("Find(%d, %v, %d) = %d, %d, %d, want %d, %d, %d", 16*page+offset, write, at, f, p, e, frame, place, want)
	}
	if x != s.pages[n][page] {
		s.Fatalf("the test is wrong: page %d is %+v, not %+v", page, x, s.pages[n][page])
	}
	w := uint64(d.roll(1 << 30))
	want = s.store(x, 16*x.Frame+offset, w)
	if e := s.u.Store(16*page+offset, w, at); e != want {
		s.Fatalf("Store(%d, %d, %d) = %d, want %d", 16*page+offset, w, at, e, want)
	}
	if !x.Valid {
		return
	}
	if got, e := s.u.Load(16*page+offset, at); got != s.words[16*x.Frame+offset] || e != api.OK {
		s.Fatalf("Load(%d, %d) = %d, %d, want %d, OK", 16*page+offset, at, got, e, s.words[16*x.Frame+offset])
	}
}

// store notes a word that is stored in a page with that entry, and tells what
// Store must answer.
func (s *system) store(x api.Entry, to int, w uint64) api.Errno {
	if !x.Valid {
		return api.ErrFault
	}
	if !x.Write {
		return api.ErrPerm
	}
	s.words[to] = w
	return api.OK
}

// P11.4: two address spaces over the same frames, whose tables are changed,
// with a flush behind each change: Find is as a walk, and a word is what was
// stored last, through whichever address.
func TestFindIsAsAWalk(t *testing.T) {
	full := 0
	for seed := range 8 {
		s, d := built(t), dice(seed)
		for range 2000 {
			n, page := d.roll(2), d.roll(2)*0xF00+d.roll(3)*0x30+d.roll(8)
			if d.roll(6) == 0 {
				s.change(&d, n, page)
			}
			s.check(&d, n, page)
			if len(s.b.Lines()) == 8 {
				full++
			}
		}
		for addr := range 16 * 32 {
			if w, _ := s.m.Read(addr); w != s.words[addr] {
				t.Fatalf("the word at %d is %d, want %d", addr, w, s.words[addr])
			}
		}
	}
	if full < 1000 {
		t.Errorf("the buffer was full only %d times", full)
	}
}

// P11.4: without a change of the tables, all pages of an address space, in many
// orders, with lines that are replaced at each slot.
func TestFindWhateverIsReplaced(t *testing.T) {
	s, d := built(t), dice(1)
	for page := range 60 {
		s.change(&d, 0, 37*page%256)
	}
	if len(s.pages[0]) < 50 {
		t.Fatalf("the test is wrong: only %d pages are mapped", len(s.pages[0]))
	}
	for step := 1; step < 256; step += 6 {
		for n := range 256 {
			s.check(&d, 0, n*step%256)
		}
	}
}
