package tables_test

import (
	"math"
	"slices"
	"testing"

	"trunnion/api"
	"trunnion/buddy"
	"trunnion/memory"
	"trunnion/tables"
	"trunnion/walk"
)

// edges are numbers around all bounds of a page and a frame, and the ends of
// int. Cut to 32, 16 or 12 bits, many of them are right ones.
var edges = []int{math.MinInt, math.MinInt + 1, math.MinInt + 4095, math.MinInt / 16, math.MinInt32, -65536, -4097, -4096, -4095, -257, -256, -255, -16, -2, -1, 0, 1, 2, 7, 8, 9, 15, 16, 17, 254, 255, 256, 257, 4094, 4095, 4096, 4097, 8191, 65535, 65536, 65537, math.MaxInt32, 1 << 32, 1<<32 + 1, 1<<32 + 4095, 1 << 60, 1 << 62, math.MaxInt / 16, math.MaxInt - 4095, math.MaxInt - 1, math.MaxInt}

// noPages are edges that no page has.
var noPages = []int{math.MinInt, math.MinInt + 1, math.MinInt32, -4096, -1, 4096, 4097, 65536, 1 << 32, 1 << 62, math.MaxInt - 1, math.MaxInt}

// page and writable are entries of a page.
func page(frame int) api.Entry     { return api.Entry{Valid: true, Frame: frame} }
func writable(frame int) api.Entry { return api.Entry{Valid: true, Write: true, Frame: frame} }

// ground is a memory of so many frames, and an allocator of all of them from
// reserved on.
func ground(t *testing.T, frames, reserved int) (*memory.Memory, *buddy.Buddy) {
	t.Helper()
	m, err := memory.New(frames)
	if err != api.OK {
		t.Fatalf("memory.New(%d): error %d", frames, err)
	}
	b, err := buddy.New(m, reserved)
	if err != api.OK {
		t.Fatalf("buddy.New(%d): error %d", reserved, err)
	}
	return m, b
}

// made is a new space.
func made(t *testing.T, m *memory.Memory, b *buddy.Buddy) *tables.Space {
	t.Helper()
	s, err := tables.New(m, b)
	if s == nil || err != api.OK {
		t.Fatalf("New = %v, %d, want a space and OK", s, err)
	}
	return s
}

// mapped maps a page, which must be possible.
func mapped(t *testing.T, s *tables.Space, page, frame int, write bool) {
	t.Helper()
	if err := s.Map(page, frame, write); err != api.OK {
		t.Fatalf("Map(%#x, %d, %v) = %d, want OK", page, frame, write, err)
	}
}

// unmapped unmaps a page, which must be mapped to that frame.
func unmapped(t *testing.T, s *tables.Space, page, frame int) {
	t.Helper()
	if got, err := s.Unmap(page); got != frame || err != api.OK {
		t.Fatalf("Unmap(%#x) = %d, %d, want %d, OK", page, got, err, frame)
	}
}

// refused holds the result of Map against the error that it must be.
func refused(t *testing.T, s *tables.Space, page, frame int, want api.Errno) {
	t.Helper()
	for _, write := range []bool{false, true} {
		if err := s.Map(page, frame, write); err != want {
			t.Errorf("Map(%#x, %d, %v) = %d, want %d", page, frame, write, err, want)
		}
	}
}

// missing holds Unmap, Protect and Find of a page against the error that all
// of them must answer.
func missing(t *testing.T, s *tables.Space, page int, want api.Errno) {
	t.Helper()
	if frame, err := s.Unmap(page); frame != 0 || err != want {
		t.Errorf("Unmap(%#x) = %d, %d, want 0, %d", page, frame, err, want)
	}
	for _, write := range []bool{false, true} {
		if err := s.Protect(page, write); err != want {
			t.Errorf("Protect(%#x, %v) = %d, want %d", page, write, err, want)
		}
	}
	if e, err := s.Find(page); e != (api.Entry{}) || err != want {
		t.Errorf("Find(%#x) = %+v, %d, want no entry, %d", page, e, err, want)
	}
}

// found holds Find of a page against its entry.
func found(t *testing.T, s *tables.Space, page int, want api.Entry) {
	t.Helper()
	if e, err := s.Find(page); e != want || err != api.OK {
		t.Errorf("Find(%#x) = %+v, %d, want %+v, OK", page, e, err, want)
	}
}

// has holds the pages and the number of tables of a space against what they
// must be, and its free frames.
func has(t *testing.T, s *tables.Space, b *buddy.Buddy, pages []int, tables, left int) {
	t.Helper()
	if got := s.Pages(); !slices.Equal(got, pages) {
		t.Errorf("Pages = %#x, want %#x", got, pages)
	}
	if got := s.Tables(); len(got) != tables {
		t.Errorf("Tables = %v, want %d of them", got, tables)
	}
	if got := b.Left(); got != left {
		t.Errorf("%d frames are left, want %d", got, left)
	}
}

// steps returns those of a walk from the root to a page.
func steps(t *testing.T, m *memory.Memory, s *tables.Space, page int) []walk.Step {
	t.Helper()
	_, steps, _ := walk.Walk(m, s.Root(), page)
	return steps
}

// words returns all of a memory.
func words(m *memory.Memory) []uint64 {
	out := make([]uint64, 16*m.Frames())
	for addr := range out {
		out[addr], _ = m.Read(addr)
	}
	return out
}

// state is all that can be seen of a memory and its allocator.
type state struct {
	words      []uint64
	free, held []buddy.Block
}

// stateOf returns it as it is now.
func stateOf(m *memory.Memory, b *buddy.Buddy) state {
	return state{words: words(m), free: b.Blocks(), held: b.Held()}
}

// same holds a state against the one that it must be.
func same(t *testing.T, got, want state, after string) {
	t.Helper()
	if !slices.Equal(got.words, want.words) {
		t.Fatalf("after %s the words are %v, want %v", after, got.words, want.words)
	}
	if !slices.Equal(got.free, want.free) || !slices.Equal(got.held, want.held) {
		t.Fatalf("after %s the blocks %v are free and %v allocated, want %v and %v", after, got.free, got.held, want.free, want.held)
	}
}

// fill writes one word to all places of a frame.
func fill(m *memory.Memory, frame int, w uint64) {
	for n := range 16 {
		m.Write(16*frame+n, w)
	}
}

// soil writes a word that is that of no entry to all free frames: so a table
// that is not cleared, and a free frame that is, can be seen.
func soil(m *memory.Memory, b *buddy.Buddy) {
	for _, block := range b.Blocks() {
		for n := range 1 << block.Order {
			fill(m, block.Frame+n, math.MaxUint64)
		}
	}
}

// P8.1: New without a memory or without an allocator.
func TestNewOfNil(t *testing.T) {
	m, b := ground(t, 4, 0)
	before := stateOf(m, b)
	for _, c := range []struct {
		m *memory.Memory
		b *buddy.Buddy
	}{{nil, b}, {m, nil}, {nil, nil}} {
		if s, err := tables.New(c.m, c.b); s != nil || err != api.ErrArg {
			t.Errorf("New(%v, %v) = %v, %d, want nil, ErrArg", c.m != nil, c.b != nil, s, err)
		}
		same(t, stateOf(m, b), before, "New")
	}
}

// P8.1: New with no frame left for the root, as all are reserved or allocated;
// ErrArg comes ahead of ErrMem.
func TestNewWithoutAFrame(t *testing.T) {
	for _, frames := range []int{1, 2, 8, 256} {
		for _, reserved := range []int{0, frames - 1, frames} {
			m, b := ground(t, frames, reserved)
			for b.Left() > 0 {
				b.Alloc(0)
			}
			for frame := range frames {
				fill(m, frame, math.MaxUint64)
			}
			before := stateOf(m, b)
			if s, err := tables.New(m, b); s != nil || err != api.ErrMem {
				t.Errorf("of %d frames, none free: New = %v, %d, want nil, ErrMem", frames, s, err)
			}
			if s, err := tables.New(nil, b); s != nil || err != api.ErrArg {
				t.Errorf("of %d frames, none free: New without memory = %v, %d, want nil, ErrArg", frames, s, err)
			}
			same(t, stateOf(m, b), before, "New")
		}
	}
}

// P8.1: Root is the frame that the allocator gives, the last one too; a new
// space has no pages and one table, whatever the frame held before.
func TestNewAndRoot(t *testing.T) {
	for _, c := range []struct{ frames, reserved, root int }{{1, 0, 0}, {2, 0, 0}, {2, 1, 1}, {8, 0, 0}, {8, 1, 1}, {8, 2, 2}, {8, 3, 3}, {8, 7, 7}, {256, 0, 0}, {256, 100, 100}, {256, 254, 254}, {256, 255, 255}} {
		m, b := ground(t, c.frames, c.reserved)
		soil(m, b)
		s := made(t, m, b)
		if s.Root() != c.root || !slices.Equal(s.Tables(), []int{c.root}) {
			t.Errorf("Root = %d, Tables = %v, want %d alone", s.Root(), s.Tables(), c.root)
		}
		has(t, s, b, nil, 1, c.frames-c.reserved-1)
		if !walk.Blank(m, c.root) {
			t.Errorf("the root of a new space is not blank")
		}
		for n := range 4096 {
			missing(t, s, n, api.ErrFault)
		}
		if !slices.Equal(b.Held(), []buddy.Block{{Frame: c.root}}) {
			t.Errorf("Held = %v, want the root as a block of order 0", b.Held())
		}
	}
}

// P8.1: New takes the frame by the allocator's rule, in the least free block.
func TestRootFromTheLeastBlock(t *testing.T) {
	m, b := ground(t, 8, 0)
	for range 6 {
		b.Alloc(0)
	}
	b.Free(3, 0)
	if s := made(t, m, b); s.Root() != 3 {
		t.Errorf("Root = %d, want 3", s.Root())
	}
	if s := made(t, m, b); s.Root() != 6 {
		t.Errorf("Root = %d, want 6", s.Root())
	}
}

// P8.2 and P8.3: the document's examples.
func TestExamples(t *testing.T) {
	m, b := ground(t, 8, 0)
	s := made(t, m, b)
	mapped(t, s, 0x123, 7, true)
	has(t, s, b, []int{0x123}, 3, 5)
	found(t, s, 0x123, writable(7))
	unmapped(t, s, 0x123, 7)
	has(t, s, b, nil, 1, 7)
	if !slices.Equal(s.Tables(), []int{s.Root()}) {
		t.Errorf("Tables = %v, want only the root %d", s.Tables(), s.Root())
	}
}

// P8.2: Map of the pages and frames around the bounds.
func TestBoundsOfMap(t *testing.T) {
	for _, frames := range []int{3, 8, 255, 256} {
		for _, number := range []int{-1, 0, 4095, 4096} {
			for _, frame := range []int{-1, 0, frames - 1, frames} {
				m, b := ground(t, frames, 0)
				s := made(t, m, b)
				if (number == 0 || number == 4095) && (frame == 0 || frame == frames-1) {
					mapped(t, s, number, frame, true)
					found(t, s, number, writable(frame))
					has(t, s, b, []int{number}, 3, frames-3)
					continue
				}
				before := stateOf(m, b)
				refused(t, s, number, frame, api.ErrArg)
				same(t, stateOf(m, b), before, "Map")
			}
		}
	}
}

// P8.2 and P0: Map of all pairs of edges, first of a space without pages, then
// of one with all that are right.
func TestEdgesOfMap(t *testing.T) {
	m, b := ground(t, 256, 0)
	s := made(t, m, b)
	for _, twice := range []bool{false, true} {
		for _, number := range edges {
			for _, frame := range edges {
				want := api.OK
				if number < 0 || number > 4095 || frame < 0 || frame > 255 {
					want = api.ErrArg
				} else if twice {
					want = api.ErrTwice
				}
				before := stateOf(m, b)
				if err := s.Map(number, frame, true); err != want {
					t.Errorf("Map(%d, %d) = %d, want %d", number, frame, err, want)
				}
				if want != api.OK {
					same(t, stateOf(m, b), before, "Map")
				} else if !twice {
					unmapped(t, s, number, frame)
				}
			}
			if !twice && number >= 0 && number < 4096 {
				mapped(t, s, number, 3, false)
			}
		}
	}
}

// P8.2: each page by itself, with each frame: it alone is mapped, through
// three tables, and is gone after Unmap.
func TestMapOfEachPage(t *testing.T) {
	m, b := ground(t, 256, 3)
	s := made(t, m, b)
	blank := stateOf(m, b)
	for n := range 4096 {
		frame, write := n%256, n/256%2 == 0
		mapped(t, s, n, frame, write)
		has(t, s, b, []int{n}, 3, 250)
		found(t, s, n, api.Entry{Valid: true, Write: write, Frame: frame})
		for _, other := range []int{n - 1, n + 1, n ^ 16, n ^ 256, n ^ 0xFFF} {
			if other >= 0 && other < 4096 {
				missing(t, s, other, api.ErrFault)
			}
		}
		unmapped(t, s, n, frame)
		same(t, stateOf(m, b), blank, "Unmap of the only page")
	}
}

// P8.2: Map of a page that is mapped already, to the same frame or to another,
// comes ahead of ErrMem and behind ErrArg, and leaves the page as it was.
func TestMapTwice(t *testing.T) {
	m, b := ground(t, 4, 1)
	s := made(t, m, b)
	mapped(t, s, 0xFED, 2, false)
	before := stateOf(m, b)
	for frame := range 4 {
		refused(t, s, 0xFED, frame, api.ErrTwice)
	}
	for _, frame := range []int{-1, 4, math.MinInt, math.MaxInt} {
		refused(t, s, 0xFED, frame, api.ErrArg)
		refused(t, s, 0x000, frame, api.ErrArg)
	}
	refused(t, s, 0x000, 0, api.ErrMem)
	same(t, stateOf(m, b), before, "Map")
	found(t, s, 0xFED, page(2))
	unmapped(t, s, 0xFED, 2)
	mapped(t, s, 0xFED, 3, true)
	found(t, s, 0xFED, writable(3))
}

// P8.2: the tables are created in the order of the levels: the frames of the
// steps are those that the allocator gives one after the other.
func TestOrderOfCreation(t *testing.T) {
	m, b := ground(t, 8, 1)
	s := made(t, m, b) // 1; next are 2, 3, and 4
	mapped(t, s, 0x123, 0, true)
	want := []walk.Step{{Frame: 1, Place: 1}, {Frame: 2, Place: 2}, {Frame: 3, Place: 3}}
	if got := steps(t, m, s, 0x123); !slices.Equal(got, want) {
		t.Errorf("the steps are %v, want %v", got, want)
	}
	mapped(t, s, 0x153, 0, true)
	want = []walk.Step{{Frame: 1, Place: 1}, {Frame: 2, Place: 5}, {Frame: 4, Place: 3}}
	if got := steps(t, m, s, 0x153); !slices.Equal(got, want) {
		t.Errorf("the steps are %v, want %v", got, want)
	}
	unmapped(t, s, 0x123, 0) // 3 is free again, and the least block
	mapped(t, s, 0x923, 0, true)
	want = []walk.Step{{Frame: 1, Place: 9}, {Frame: 3, Place: 2}, {Frame: 5, Place: 3}}
	if got := steps(t, m, s, 0x923); !slices.Equal(got, want) {
		t.Errorf("the steps are %v, want %v", got, want)
	}
	if got := s.Tables(); !slices.Equal(got, []int{1, 2, 3, 4, 5}) {
		t.Errorf("Tables = %v, want 1 to 5", got)
	}
}

// P8.2: how many tables a page needs that shares none, that of level 1, and
// both; and what is returned with each number of frames left.
func TestRoomForTables(t *testing.T) {
	for left := range 4 {
		for _, c := range []struct{ number, need int }{{0x124, 0}, {0x12F, 0}, {0x133, 1}, {0x1F3, 1}, {0x103, 1}, {0x223, 2}, {0x023, 2}, {0xF23, 2}} {
			m, b := ground(t, 3+left, 0)
			s := made(t, m, b)
			mapped(t, s, 0x123, 1, true)
			soil(m, b)
			before := stateOf(m, b)
			if c.need <= left {
				mapped(t, s, c.number, 2, false)
				found(t, s, c.number, page(2))
				has(t, s, b, sorted(0x123, c.number), 3+c.need, left-c.need)
			} else {
				refused(t, s, c.number, 2, api.ErrMem)
				same(t, stateOf(m, b), before, "ErrMem of Map")
				has(t, s, b, []int{0x123}, 3, left)
				missing(t, s, c.number, api.ErrFault)
			}
			found(t, s, 0x123, writable(1))
		}
	}
}

// sorted returns the numbers in increasing order.
func sorted(numbers ...int) []int {
	slices.Sort(numbers)
	return numbers
}

// P8.2: the first page of a space with room for no table, for the table of
// level 1 alone, and for both. With the frames that are freed, Map goes on.
func TestRoomForTheFirstPage(t *testing.T) {
	for left := range 3 {
		m, b := ground(t, 8, 0)
		s := made(t, m, b)
		var taken []int
		for b.Left() > left {
			frame, _ := b.Alloc(0)
			fill(m, frame, 77)
			taken = append(taken, frame)
		}
		soil(m, b)
		before, rest := stateOf(m, b), 0
		if left < 2 {
			rest = left // two frames are freed, and two taken
			refused(t, s, 0xABC, 5, api.ErrMem)
			same(t, stateOf(m, b), before, "ErrMem of Map")
			has(t, s, b, nil, 1, left)
			b.Free(taken[2], 0)
			b.Free(taken[4], 0)
		}
		mapped(t, s, 0xABC, 5, true)
		has(t, s, b, []int{0xABC}, 3, rest)
		found(t, s, 0xABC, writable(5))
		if w, _ := m.Read(16 * taken[0]); w != 77 {
			t.Errorf("a word of another block has become %d", w)
		}
	}
}

// P8.2: a table holds no more than what was mapped, whatever was in its frame.
func TestTablesAreCleared(t *testing.T) {
	for _, w := range []uint64{1, 3, 5, 0x101, 0x705, 2, math.MaxUint64} {
		m, b := ground(t, 8, 0)
		for frame := range 8 {
			fill(m, frame, w)
		}
		s := made(t, m, b)
		mapped(t, s, 0x123, 6, false)
		mapped(t, s, 0x456, 7, true)
		has(t, s, b, []int{0x123, 0x456}, 5, 3)
		for n := range 4096 {
			if n != 0x123 && n != 0x456 {
				missing(t, s, n, api.ErrFault)
			}
		}
		unmapped(t, s, 0x456, 7)
		unmapped(t, s, 0x123, 6)
		has(t, s, b, nil, 1, 7)
	}
}

// P8.2: no word of the frames to which pages are mapped changes, and a frame
// may be that of several pages, or of none that is allocated.
func TestMappedFramesAreNotTouched(t *testing.T) {
	m, b := ground(t, 8, 2)
	fill(m, 0, 5)
	fill(m, 1, math.MaxUint64)
	s := made(t, m, b)
	frame, _ := b.Alloc(0)
	fill(m, frame, 261)
	for n, f := range []int{0, 1, frame, frame, 1, 0, 7} {
		mapped(t, s, n, f, n%2 == 0)
		found(t, s, n, api.Entry{Valid: true, Write: n%2 == 0, Frame: f})
	}
	has(t, s, b, []int{0, 1, 2, 3, 4, 5, 6}, 3, 2)
	for n, f := range []int{0, 1, frame, frame} {
		unmapped(t, s, n, f)
	}
	if got := s.Close(); !slices.Equal(got, []int{1, 0, 7}) {
		t.Errorf("Close = %v, want 1, 0, 7", got)
	}
	for f, want := range map[int]uint64{0: 5, 1: math.MaxUint64, frame: 261} {
		if got, _ := m.Frame(f); got != [16]uint64(slices.Repeat([]uint64{want}, 16)) {
			t.Errorf("frame %d has become %v", f, got)
		}
	}
	if !slices.Equal(b.Held(), []buddy.Block{{Frame: frame}}) {
		t.Errorf("Held = %v, want the mapped frame %d alone", b.Held(), frame)
	}
}

// P8.3: Unmap, Protect and Find of the pages around the bounds, mapped or not,
// and of numbers up to the ends of int.
func TestBoundsOfUnmapProtectAndFind(t *testing.T) {
	m, b := ground(t, 8, 0)
	s := made(t, m, b)
	for _, full := range []bool{false, true} {
		before := stateOf(m, b)
		for _, n := range noPages {
			missing(t, s, n, api.ErrArg)
		}
		for _, n := range []int{1, 15, 16, 255, 256, 4094, 4079, 3840 - 1} {
			missing(t, s, n, api.ErrFault)
		}
		if !full {
			missing(t, s, 0, api.ErrFault)
			missing(t, s, 4095, api.ErrFault)
		}
		same(t, stateOf(m, b), before, "what is refused")
		if !full {
			mapped(t, s, 0, 0, false)
			mapped(t, s, 4095, 7, true)
		}
	}
	found(t, s, 0, page(0))
	found(t, s, 4095, writable(7))
	for _, n := range []int{0, 4095} {
		if err := s.Protect(n, n == 0); err != api.OK {
			t.Errorf("Protect(%d) = %d, want OK", n, err)
		}
	}
	found(t, s, 0, writable(0))
	found(t, s, 4095, page(7))
	unmapped(t, s, 0, 0)
	unmapped(t, s, 4095, 7)
	has(t, s, b, nil, 1, 7)
}

// P8.3: all edges, of a space in which each third page is mapped.
func TestEdgesOfUnmapProtectAndFind(t *testing.T) {
	m, b := ground(t, 256, 0)
	s := made(t, m, b)
	for n := 0; n < 2048; n += 3 {
		mapped(t, s, n, n%251, n%2 == 0)
	}
	before := stateOf(m, b)
	for _, n := range edges {
		switch {
		case n < 0 || n > 4095:
			missing(t, s, n, api.ErrArg)
		case n >= 2048 || n%3 != 0:
			missing(t, s, n, api.ErrFault)
		default:
			found(t, s, n, api.Entry{Valid: true, Write: n%2 == 0, Frame: n % 251})
		}
	}
	same(t, stateOf(m, b), before, "what is refused")
}

// P8.3: Unmap of a page that is not the last of its table, of the last one of
// level 2, and of the last one of level 1, in turn.
func TestUnmapFreesTables(t *testing.T) {
	m, b := ground(t, 8, 1)
	s := made(t, m, b)
	mapped(t, s, 0x300, 0, true)
	mapped(t, s, 0x30F, 1, true)
	mapped(t, s, 0x3F0, 2, true)
	mapped(t, s, 0x4F0, 3, true)
	has(t, s, b, []int{0x300, 0x30F, 0x3F0, 0x4F0}, 6, 1)
	first, second := steps(t, m, s, 0x300), steps(t, m, s, 0x3F0)

	unmapped(t, s, 0x300, 0)
	missing(t, s, 0x300, api.ErrFault)
	has(t, s, b, []int{0x30F, 0x3F0, 0x4F0}, 6, 1)

	unmapped(t, s, 0x30F, 1)
	has(t, s, b, []int{0x3F0, 0x4F0}, 5, 2)
	gone(t, m, s, first[2].Frame)
	if !slices.Contains(s.Tables(), first[1].Frame) {
		t.Error("the table of level 1 is gone with that of level 2, which was not its last")
	}

	unmapped(t, s, 0x3F0, 2)
	has(t, s, b, []int{0x4F0}, 3, 4)
	gone(t, m, s, second[1].Frame)
	gone(t, m, s, second[2].Frame)

	found(t, s, 0x4F0, writable(3))
	unmapped(t, s, 0x4F0, 3)
	has(t, s, b, nil, 1, 6)
	missing(t, s, 0x4F0, api.ErrFault)
}

// gone holds a frame that was a table against one that is free: all of its
// words are zero, and the space does not name it.
func gone(t *testing.T, m *memory.Memory, s *tables.Space, frame int) {
	t.Helper()
	if !m.Zero(frame) || slices.Contains(s.Tables(), frame) {
		t.Errorf("table %d was freed, and is still there", frame)
	}
}

// P8.3: all pages of one table of level 2, and all tables of one of level 1,
// unmapped up and down: the tables go with the last page alone.
func TestUnmapOfFullTables(t *testing.T) {
	for _, down := range []bool{false, true} {
		m, b := ground(t, 32, 0)
		s := made(t, m, b)
		blank := stateOf(m, b)
		var pages []int
		for n := 0x500; n < 0x600; n++ {
			mapped(t, s, n, n%32, true)
			pages = append(pages, n)
		}
		has(t, s, b, pages, 18, 14)
		if down {
			slices.Reverse(pages)
		}
		for n, number := range pages {
			tables := 2 + (256-n+15)/16
			if got := len(s.Tables()); got != tables {
				t.Errorf("with %d pages there are %d tables, want %d", 256-n, got, tables)
			}
			unmapped(t, s, number, number%32)
		}
		same(t, stateOf(m, b), blank, "Unmap of all pages")
	}
}

// P8.3: Protect to and fro, to what it was already too; it changes no other
// page, no frame and no table.
func TestProtectToAndFro(t *testing.T) {
	m, b := ground(t, 8, 0)
	s := made(t, m, b)
	pages := []int{0x120, 0x121, 0x12F, 0x1F1, 0xF21}
	for n, number := range pages[:4] {
		mapped(t, s, number, n, n%2 == 0)
	}
	missing(t, s, pages[4], api.ErrFault)
	for _, write := range []bool{true, true, false, false, true, false} {
		before := stateOf(m, b)
		tables := s.Tables()
		if err := s.Protect(0x121, write); err != api.OK {
			t.Fatalf("Protect(%v) = %d, want OK", write, err)
		}
		found(t, s, 0x121, api.Entry{Valid: true, Write: write, Frame: 1})
		found(t, s, 0x120, writable(0))
		found(t, s, 0x12F, writable(2))
		found(t, s, 0x1F1, page(3))
		last := steps(t, m, s, 0x121)[2]
		before.words[16*last.Frame+last.Place] = 256 + 1
		if write {
			before.words[16*last.Frame+last.Place] = 256 + 3
		}
		same(t, stateOf(m, b), before, "Protect")
		if !slices.Equal(s.Tables(), tables) || !slices.Equal(s.Pages(), pages[:4]) {
			t.Errorf("Protect has changed the tables to %v, the pages to %#x", s.Tables(), s.Pages())
		}
	}
	unmapped(t, s, 0x121, 1)
}

// P8.4: Pages, Tables and Close of no page, of one, of pages that share tables
// of level 1 and 2, and of pages that do not.
func TestPagesTablesAndClose(t *testing.T) {
	for _, c := range []struct {
		pages  []int
		tables int
	}{
		{nil, 1},
		{[]int{0}, 3},
		{[]int{4095}, 3},
		{[]int{0x12F, 0x120}, 3},
		{[]int{0x1F0, 0x100}, 4},
		{[]int{0xF00, 0x000}, 5},
		{[]int{0x001, 0x010, 0x100}, 6},
		{[]int{0x100, 0x010, 0x001}, 6},
		{[]int{0xFFF, 0xFFE, 0xFEF, 0xEFF, 0x000}, 8},
		{[]int{0x234, 0x432, 0x324, 0x423, 0x243, 0x342}, 10},
	} {
		m, b := ground(t, 16, 2)
		soil(m, b)
		before := b.Blocks()
		s := made(t, m, b)
		for _, number := range c.pages {
			mapped(t, s, number, number%13, number%2 == 0)
		}
		var frames []int
		for _, number := range sorted(slices.Clone(c.pages)...) {
			frames = append(frames, number%13)
		}
		has(t, s, b, sorted(slices.Clone(c.pages)...), c.tables, 14-c.tables)
		tables := s.Tables()
		if !slices.IsSorted(tables) || !slices.Contains(tables, s.Root()) {
			t.Errorf("Tables = %v, with root %d, want it and an increasing order", tables, s.Root())
		}
		var held []int
		for _, block := range b.Held() {
			held = append(held, block.Frame)
		}
		if !slices.Equal(tables, held) {
			t.Errorf("Tables = %v, want the allocated frames %v", tables, held)
		}
		if got := s.Close(); !slices.Equal(got, frames) {
			t.Errorf("Close of the pages %#x = %v, want %v", c.pages, got, frames)
		}
		if !slices.Equal(b.Blocks(), before) || len(b.Held()) != 0 {
			t.Errorf("after Close the blocks %v are free, want %v", b.Blocks(), before)
		}
		for _, table := range tables {
			if !m.Zero(table) {
				t.Errorf("after Close the words of table %d are not zero", table)
			}
		}
	}
}

// P8.4: the tables are in increasing order of the frames, also where the order
// of the pages and of the levels is another one.
func TestTablesAreSorted(t *testing.T) {
	m, b := ground(t, 8, 0)
	for range 5 {
		b.Alloc(0)
	}
	s := made(t, m, b) // 5
	b.Alloc(0)
	b.Free(2, 0)
	b.Free(3, 0)
	mapped(t, s, 0xF00, 0, true) // 7, the least block, and then 2
	b.Free(1, 0)
	mapped(t, s, 0x000, 1, true) // 1 and 3
	for number, want := range map[int][]walk.Step{0: {{Frame: 5}, {Frame: 1}, {Frame: 3}}, 0xF00: {{Frame: 5, Place: 15}, {Frame: 7}, {Frame: 2}}} {
		if got := steps(t, m, s, number); !slices.Equal(got, want) {
			t.Errorf("the steps to %#x are %v, want %v", number, got, want)
		}
	}
	if got := s.Tables(); !slices.Equal(got, []int{1, 2, 3, 5, 7}) {
		t.Errorf("Tables = %v, want 1, 2, 3, 5, 7", got)
	}
	if got := s.Pages(); !slices.Equal(got, []int{0x000, 0xF00}) {
		t.Errorf("Pages = %#x, want 0, 0xF00", got)
	}
	if got := s.Close(); !slices.Equal(got, []int{1, 0}) {
		t.Errorf("Close = %v, want 1, 0", got)
	}
	if got := b.Held(); !slices.Equal(got, []buddy.Block{{Frame: 0}, {Frame: 4}, {Frame: 6}}) {
		t.Errorf("Held = %v, want the frames 0, 4 and 6 of others", got)
	}
}

// P8.4: a full table of each level, and Close of as many pages as fit.
func TestCloseOfTheMostPages(t *testing.T) {
	m, b := ground(t, 256, 0)
	before := stateOf(m, b)
	s := made(t, m, b)
	var pages, frames []int
	for n := range 4096 {
		if b.Left() == 0 && n%16 == 0 {
			refused(t, s, n, 0, api.ErrMem)
			break
		}
		mapped(t, s, n, n*7%256, n%3 == 0)
		pages = append(pages, n)
		frames = append(frames, n*7%256)
	}
	has(t, s, b, pages, 256, 0)
	if len(pages) != 3840 {
		t.Errorf("%d pages are mapped, want 3840: 256 frames are the root, 15 tables of level 1, and 240 of level 2", len(pages))
	}
	if got := s.Close(); !slices.Equal(got, frames) {
		t.Errorf("Close = %v, want %v", got, frames)
	}
	same(t, stateOf(m, b), before, "Close")
}

// P8.4: after Close a space can be made anew in the same frames.
func TestSpaceAfterClose(t *testing.T) {
	m, b := ground(t, 3, 0)
	for n := range 20 {
		s := made(t, m, b)
		has(t, s, b, nil, 1, 2)
		mapped(t, s, n*200, n%3, true)
		if got := s.Close(); !slices.Equal(got, []int{n % 3}) {
			t.Errorf("Close = %v, want %d", got, n%3)
		}
		if b.Left() != 3 {
			t.Fatalf("after Close %d frames are free, want 3", b.Left())
		}
	}
}

// model is a space as the document tells it, in a memory and with an allocator
// of its own: the tables of each level by their indices, whose words it writes
// itself.
type model struct {
	m      *memory.Memory
	b      *buddy.Buddy
	root   int
	first  map[int]int // tables of level 1, by page / 256
	second map[int]int // tables of level 2, by page / 16
	pages  map[int]api.Entry
}

// modelOf returns one without pages.
func modelOf(m *memory.Memory, b *buddy.Buddy) *model {
	o := &model{m: m, b: b, first: map[int]int{}, second: map[int]int{}, pages: map[int]api.Entry{}}
	o.root = o.create()
	return o
}

// create takes a frame for a table.
func (o *model) create() int {
	frame, _ := o.b.Alloc(0)
	fill(o.m, frame, 0)
	return frame
}

// write stores the word of a page's entry.
func (o *model) write(page int) {
	e, w := o.pages[page], uint64(0)
	if e.Valid {
		w = uint64(e.Frame)*256 + 1
	}
	if e.Write {
		w += 2
	}
	o.m.Write(16*o.second[page/16]+page%16, w)
}

// wrong reports a number that no page has.
func wrong(page int) bool { return page < 0 || page > 4095 }

func (o *model) Map(page, frame int, write bool) api.Errno {
	if wrong(page) || frame < 0 || frame >= o.m.Frames() {
		return api.ErrArg
	}
	if o.pages[page].Valid {
		return api.ErrTwice
	}
	_, hasFirst := o.first[page/256]
	_, hasSecond := o.second[page/16]
	need := 0
	if !hasFirst {
		need++
	}
	if !hasSecond {
		need++
	}
	if o.b.Left() < need {
		return api.ErrMem
	}
	if !hasFirst {
		o.first[page/256] = o.create()
		o.m.Write(16*o.root+page/256, uint64(o.first[page/256])*256+5)
	}
	if !hasSecond {
		o.second[page/16] = o.create()
		o.m.Write(16*o.first[page/256]+page/16%16, uint64(o.second[page/16])*256+5)
	}
	o.pages[page] = api.Entry{Valid: true, Write: write, Frame: frame}
	o.write(page)
	return api.OK
}

func (o *model) Unmap(page int) (int, api.Errno) {
	e, err := o.Find(page)
	if err != api.OK {
		return 0, err
	}
	delete(o.pages, page)
	o.write(page)
	if !o.anyOf(16, page) {
		o.b.Free(o.second[page/16], 0)
		delete(o.second, page/16)
		o.m.Write(16*o.first[page/256]+page/16%16, 0)
	}
	if !o.anyOf(256, page) {
		o.b.Free(o.first[page/256], 0)
		delete(o.first, page/256)
		o.m.Write(16*o.root+page/256, 0)
	}
	return e.Frame, api.OK
}

// anyOf reports whether one of the many pages that share a table with this one
// is mapped.
func (o *model) anyOf(many, page int) bool {
	for other := range o.pages {
		if other/many == page/many {
			return true
		}
	}
	return false
}

func (o *model) Protect(page int, write bool) api.Errno {
	e, err := o.Find(page)
	if err != api.OK {
		return err
	}
	e.Write = write
	o.pages[page] = e
	o.write(page)
	return api.OK
}

func (o *model) Find(page int) (api.Entry, api.Errno) {
	if wrong(page) {
		return api.Entry{}, api.ErrArg
	}
	if !o.pages[page].Valid {
		return api.Entry{}, api.ErrFault
	}
	return o.pages[page], api.OK
}

func (o *model) Pages() []int {
	var out []int
	for page := range 4096 {
		if o.pages[page].Valid {
			out = append(out, page)
		}
	}
	return out
}

func (o *model) Tables() []int {
	out := []int{o.root}
	for _, table := range o.first {
		out = append(out, table)
	}
	for _, table := range o.second {
		out = append(out, table)
	}
	return sorted(out...)
}

func (o *model) Close() []int {
	var out []int
	for _, page := range o.Pages() {
		out = append(out, o.pages[page].Frame)
	}
	for _, table := range o.Tables() {
		o.b.Free(table, 0)
	}
	return out
}

// pair is a space and its model.
type pair struct {
	s *tables.Space
	o *model
}

// random is a source of numbers that is the same in each run.
type random uint64

// below returns a number from 0 to n-1.
func (r *random) below(n int) int {
	*r = *r*6364136223846793005 + 1442695040888963407
	return int(uint64(*r)>>33) % n
}

// page returns a number of a page: one of some that share tables, of all, or
// of an edge.
func (r *random) page() int {
	switch r.below(12) {
	case 0:
		return r.below(4096)
	case 1:
		return edges[r.below(len(edges))]
	}
	few := []int{0, 1, 9, 15}
	return few[r.below(4)]*256 + few[r.below(4)]*16 + few[r.below(4)]
}

// frame returns one of so many, or an edge.
func (r *random) frame(frames int) int {
	if r.below(12) == 0 {
		return edges[r.below(len(edges))]
	}
	return r.below(frames)
}

// one does a call to a pair, and holds the answers against each other.
func (p pair) one(t *testing.T, r *random) api.Errno {
	t.Helper()
	n, write := r.page(), r.below(2) == 0
	switch r.below(8) {
	case 0, 1, 2, 3:
		frame := r.frame(p.o.m.Frames())
		got, want := p.s.Map(n, frame, write), p.o.Map(n, frame, write)
		if got != want {
			t.Fatalf("Map(%#x, %d, %v) = %d, want %d", n, frame, write, got, want)
		}
		return want
	case 4, 5:
		got, err := p.s.Unmap(n)
		want, wantErr := p.o.Unmap(n)
		if got != want || err != wantErr {
			t.Fatalf("Unmap(%#x) = %d, %d, want %d, %d", n, got, err, want, wantErr)
		}
		return wantErr
	case 6:
		got, want := p.s.Protect(n, write), p.o.Protect(n, write)
		if got != want {
			t.Fatalf("Protect(%#x, %v) = %d, want %d", n, write, got, want)
		}
		return want
	}
	got, err := p.s.Find(n)
	want, wantErr := p.o.Find(n)
	if got != want || err != wantErr {
		t.Fatalf("Find(%#x) = %+v, %d, want %+v, %d", n, got, err, want, wantErr)
	}
	return wantErr
}

// lists holds the lists of a pair against each other.
func (p pair) lists(t *testing.T) {
	t.Helper()
	if p.s.Root() != p.o.root {
		t.Fatalf("Root = %d, want %d", p.s.Root(), p.o.root)
	}
	if got, want := p.s.Pages(), p.o.Pages(); !slices.Equal(got, want) {
		t.Fatalf("Pages = %#x, want %#x", got, want)
	}
	if got, want := p.s.Tables(), p.o.Tables(); !slices.Equal(got, want) {
		t.Fatalf("Tables = %v, want %v", got, want)
	}
}

// walks holds a walk from the root to each page against Find, and the frames
// of its steps against the tables.
func (p pair) walks(t *testing.T, m *memory.Memory) {
	t.Helper()
	for n := range 4096 {
		want, wantErr := p.o.Find(n)
		got, err := p.s.Find(n)
		walked, steps, walkErr := walk.Walk(m, p.s.Root(), n)
		if got != want || err != wantErr || walked != want || walkErr != wantErr {
			t.Fatalf("page %#x: Find = %+v, %d, Walk = %+v, %d, want %+v, %d", n, got, err, walked, walkErr, want, wantErr)
		}
		if wantErr == api.OK && (steps[1].Frame != p.o.first[n/256] || steps[2].Frame != p.o.second[n/16]) {
			t.Fatalf("page %#x: the steps are %v, want the tables %d and %d", n, steps, p.o.first[n/256], p.o.second[n/16])
		}
	}
}

// P8.1 to P8.5: long mixtures of calls to three spaces in one memory, in which
// frames become scarce, against the model: all answers, all words, the free
// and the allocated blocks.
func TestMixtures(t *testing.T) {
	seen := map[api.Errno]int{}
	for seed := range 24 {
		r := random(seed)
		frames := 12 + r.below(30)
		reserved := r.below(3)
		m, b := ground(t, frames, reserved)
		m2, b2 := ground(t, frames, reserved)
		soil(m, b)
		soil(m2, b2)
		before := b.Blocks()
		var pairs []pair
		for range 3 {
			pairs = append(pairs, pair{s: made(t, m, b), o: modelOf(m2, b2)})
		}
		for round := range 400 {
			at := pairs[r.below(3)]
			seen[at.one(t, &r)]++
			same(t, stateOf(m, b), stateOf(m2, b2), "a call")
			for _, p := range pairs {
				p.lists(t)
			}
			if round%50 == 49 {
				for _, p := range pairs {
					p.walks(t, m)
				}
			}
		}
		for n, p := range pairs {
			if got, want := p.s.Close(), p.o.Close(); !slices.Equal(got, want) {
				t.Fatalf("Close = %v, want %v", got, want)
			}
			same(t, stateOf(m, b), stateOf(m2, b2), "Close")
			for _, q := range pairs[n+1:] {
				q.lists(t)
				q.walks(t, m)
			}
		}
		if !slices.Equal(b.Blocks(), before) {
			t.Fatalf("after all were closed the blocks %v are free, want %v", b.Blocks(), before)
		}
	}
	for _, err := range []api.Errno{api.OK, api.ErrArg, api.ErrTwice, api.ErrMem, api.ErrFault} {
		if seen[err] < 20 {
			t.Errorf("error %d was the answer %d times: the mixtures are too poor", err, seen[err])
		}
	}
}

// P8.5: a walk from the root to pages that are mapped, beside them, and to
// numbers that no page has.
func TestWalkIsFind(t *testing.T) {
	m, b := ground(t, 64, 0)
	s := made(t, m, b)
	for _, n := range []int{0x000, 0x001, 0x00F, 0x010, 0x0FF, 0x100, 0x7FE, 0xABC, 0xFF0, 0xFFF} {
		mapped(t, s, n, n%64, n%2 == 0)
	}
	for _, n := range append([]int{0xABB, 0xABD, 0xAAC, 0xACC, 0x9BC, 0xBBC}, edges...) {
		e, err := s.Find(n)
		walked, _, walkErr := walk.Walk(m, s.Root(), n)
		if e != walked || err != walkErr {
			t.Errorf("page %d: Find = %+v, %d, Walk = %+v, %d", n, e, err, walked, walkErr)
		}
	}
	found(t, s, 0xABC, writable(0xABC%64))
}

// P8.5 and P2: two spaces in one memory share no table, and what is done to
// one changes nothing of the other.
func TestTwoSpaces(t *testing.T) {
	m, b := ground(t, 16, 1)
	before := b.Blocks()
	s, other := made(t, m, b), made(t, m, b)
	if s.Root() == other.Root() {
		t.Fatalf("two spaces have the root %d", s.Root())
	}
	mapped(t, s, 0x123, 5, true)
	missing(t, other, 0x123, api.ErrFault)
	mapped(t, other, 0x123, 6, false)
	mapped(t, other, 0x456, 5, true)
	found(t, s, 0x123, writable(5))
	found(t, other, 0x123, page(6))
	missing(t, s, 0x456, api.ErrFault)
	for _, table := range s.Tables() {
		if slices.Contains(other.Tables(), table) {
			t.Errorf("table %d is that of two spaces", table)
		}
	}
	if s.Protect(0x123, false) != api.OK || other.Protect(0x123, true) != api.OK {
		t.Error("Protect of a mapped page, want OK")
	}
	found(t, s, 0x123, page(5))
	found(t, other, 0x123, writable(6))
	unmapped(t, s, 0x123, 5)
	has(t, s, b, nil, 1, 9)
	found(t, other, 0x123, writable(6))
	if got := s.Close(); len(got) != 0 {
		t.Errorf("Close of no page = %v", got)
	}
	has(t, other, b, []int{0x123, 0x456}, 5, 10)
	found(t, other, 0x456, writable(5))
	if got := other.Close(); !slices.Equal(got, []int{6, 5}) {
		t.Errorf("Close = %v, want 6, 5", got)
	}
	if !slices.Equal(b.Blocks(), before) {
		t.Errorf("the blocks %v are free, want %v", b.Blocks(), before)
	}
}

// P8.5: the free frames after Close are those before New, also where others
// have blocks of several orders.
func TestFreeFramesAfterClose(t *testing.T) {
	m, b := ground(t, 64, 3)
	for _, order := range []int{0, 3, 1, 2, 0, 4} {
		if frame, err := b.Alloc(order); err != api.OK {
			t.Fatal(frame, err)
		}
	}
	b.Free(16, 4)
	before := stateOf(m, b)
	s := made(t, m, b)
	for n := 0; n < 4096; n += 311 {
		if s.Map(n, n%64, true) == api.ErrMem {
			break
		}
	}
	unmapped(t, s, 622, 622%64)
	s.Close()
	same(t, stateOf(m, b), before, "Close")
}

// R1 and P8.5: no call that returns an error, and none that only asks, changes
// a word, a block or a list, of an empty space, a full one, and one between.
func TestErrorsChangeNothing(t *testing.T) {
	for _, pages := range [][]int{nil, {0x123}, {0x123, 0x124, 0x133, 0x223, 0x224}} {
		m, b := ground(t, 6, 0)
		s := made(t, m, b)
		for _, n := range pages {
			mapped(t, s, n, 3, n%2 == 0)
		}
		soil(m, b)
		before, tables := stateOf(m, b), s.Tables()
		for _, n := range edges {
			if wrong(n) {
				missing(t, s, n, api.ErrArg)
				refused(t, s, n, 0, api.ErrArg)
			} else {
				missing(t, s, n, api.ErrFault)
				refused(t, s, n, -1, api.ErrArg)
				refused(t, s, n, 6, api.ErrArg)
			}
		}
		for _, n := range pages {
			refused(t, s, n, 1, api.ErrTwice)
		}
		if len(pages) == 5 {
			refused(t, s, 0x333, 1, api.ErrMem)
			refused(t, s, 0x143, 1, api.ErrMem)
		}
		s.Root()
		if !slices.Equal(s.Pages(), pages) || !slices.Equal(s.Tables(), tables) {
			t.Errorf("Pages = %#x, Tables = %v, want %#x, %v", s.Pages(), s.Tables(), pages, tables)
		}
		same(t, stateOf(m, b), before, "errors")
	}
}

// R3: the lists belong to the caller: what is done to them changes no other
// answer.
func TestListsBelongToTheCaller(t *testing.T) {
	m, b := ground(t, 8, 0)
	s := made(t, m, b)
	mapped(t, s, 0x123, 5, true)
	mapped(t, s, 0x456, 6, true)
	pages, tables := s.Pages(), s.Tables()
	same := func(after string) {
		if !slices.Equal(s.Pages(), []int{0x123, 0x456}) || !slices.Equal(s.Tables(), []int{0, 1, 2, 3, 4}) {
			t.Errorf("after %s Pages = %#x, Tables = %v", after, s.Pages(), s.Tables())
		}
	}
	for n := range pages {
		pages[n] = -1
	}
	for n := range tables {
		tables[n] = -1
	}
	_, _ = append(pages[:1], -2), append(tables[:1], -2)
	same("a change of the lists")
	if got := s.Close(); !slices.Equal(got, []int{5, 6}) {
		t.Errorf("Close = %v, want 5, 6", got)
	}
}

// R4: the same calls have the same answers, with another memory too.
func TestTwoMemories(t *testing.T) {
	m, b := ground(t, 8, 0)
	m2, b2 := ground(t, 8, 0)
	s, other := made(t, m, b), made(t, m2, b2)
	mapped(t, s, 0x123, 5, true)
	has(t, other, b2, nil, 1, 7)
	missing(t, other, 0x123, api.ErrFault)
	mapped(t, other, 0x123, 5, true)
	same(t, stateOf(m, b), stateOf(m2, b2), "the same calls")
	unmapped(t, s, 0x123, 5)
	found(t, other, 0x123, writable(5))
}

// P0: an allocator of a greater memory gives frames that this one does not
// have: they are no frames for tables, and stay free.
func TestAllocatorOfAGreaterMemory(t *testing.T) {
	for _, frames := range []int{1, 2, 3, 4} {
		m, _ := ground(t, frames, 0)
		greater, b := ground(t, 8, 1)
		before := stateOf(greater, b)
		s, err := tables.New(m, b)
		if frames == 1 {
			if s != nil || err != api.ErrMem {
				t.Errorf("New = %v, %d, want nil, ErrMem", s, err)
			}
			same(t, stateOf(greater, b), before, "New")
			continue
		}
		if s == nil || err != api.OK {
			t.Fatalf("New = %v, %d, want a space and OK", s, err)
		}
		left := stateOf(m, b)
		if frames < 4 {
			refused(t, s, 0x123, 0, api.ErrMem)
			same(t, stateOf(m, b), left, "ErrMem of Map")
		} else {
			mapped(t, s, 0x123, 3, true)
			refused(t, s, 0x133, 0, api.ErrMem)
			has(t, s, b, []int{0x123}, 3, 4)
		}
		s.Close()
		same(t, stateOf(greater, b), before, "Close")
	}
}

// P0: no call panics or runs on when the words of the tables were spoilt, which
// the document leaves open otherwise.
func TestSpoiltTables(t *testing.T) {
	for _, w := range []uint64{1, 3, 5, 261, 517, 65285, 2, math.MaxUint64} {
		for frame := range 4 {
			m, b := ground(t, 4, 0)
			s := made(t, m, b)
			mapped(t, s, 0x123, 3, true)
			fill(m, frame, w)
			for _, n := range append([]int{0x123, 0x124, 0x321}, edges...) {
				s.Find(n)
				s.Protect(n, true)
				s.Map(n, 1, true)
				s.Unmap(n)
			}
			s.Pages()
			s.Tables()
			s.Close()
		}
	}
}
