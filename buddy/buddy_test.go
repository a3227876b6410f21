package buddy_test

import (
	"math"
	"slices"
	"testing"

	"trunnion/api"
	"trunnion/buddy"
	"trunnion/memory"
)

// sizes are those of the memories that the tests take.
var sizes = []int{1, 2, 3, 7, 8, 9, 100, 128, 129, 255, 256}

// edges are numbers around all bounds of reserved, of an order and of a frame,
// and the ends of int. Cut to 32, 16 or 8 bits, many of them are right ones.
var edges = []int{math.MinInt, math.MinInt + 1, math.MinInt + 8, math.MinInt + 256, math.MinInt32, -1 << 16, -257, -256, -255, -9, -8, -2, -1, 0, 1, 2, 3, 7, 8, 9, 10, 62, 63, 64, 65, 127, 128, 254, 255, 256, 257, 258, 264, 512, 1 << 16, 1<<16 + 1, math.MaxInt32, 1 << 32, 1<<32 + 1, math.MaxInt - 256, math.MaxInt - 8, math.MaxInt - 1, math.MaxInt}

// The state of a frame, if it is not that of an allocated block: then it is
// the block's number, from 1 on.
const (
	free     = 0
	reserved = -1
)

// model tells of each frame of a memory in which state it must be, and of each
// allocated block where it is, by its number; and what the memory must hold.
type model struct {
	frames []int
	held   map[int]buddy.Block
	words  []uint64
	blocks int // how many have been allocated
}

// block is a short form of one.
func block(frame, order int) buddy.Block { return buddy.Block{Frame: frame, Order: order} }

// isFree tells whether all frames of a block are there, and free.
func (w *model) isFree(b buddy.Block) bool {
	end := b.Frame + 1<<b.Order
	return end <= len(w.frames) && !slices.ContainsFunc(w.frames[b.Frame:end], func(f int) bool { return f != free })
}

// maximal are the free blocks that lie within no larger free one, by their
// frames: all blocks are tried, and all that they may lie within.
func (w *model) maximal() []buddy.Block {
	var out []buddy.Block
	for frame := range w.frames {
		for order := 0; order <= 8 && frame%(1<<order) == 0; order++ {
			is := w.isFree(block(frame, order))
			for larger := order + 1; larger <= 8; larger++ {
				is = is && !w.isFree(block(frame>>larger<<larger, larger))
			}
			if is {
				out = append(out, block(frame, order))
			}
		}
	}
	return out
}

// list are the allocated blocks, by their frames.
func (w *model) list() []buddy.Block {
	var out []buddy.Block
	for _, b := range w.held {
		out = append(out, b)
	}
	slices.SortFunc(out, func(a, b buddy.Block) int { return a.Frame - b.Frame })
	return out
}

// left is how many frames are free.
func (w *model) left() int {
	many := 0
	for _, f := range w.frames {
		if f == free {
			many++
		}
	}
	return many
}

// alloc is what Alloc must answer: of all maximal free blocks the one of the
// least order, then of the least frame.
func (w *model) alloc(order int) (int, api.Errno) {
	if order < 0 || order > 8 {
		return 0, api.ErrArg
	}
	best := block(0, 9)
	for _, b := range w.maximal() {
		if b.Order >= order && (b.Order < best.Order || b.Order == best.Order && b.Frame < best.Frame) {
			best = b
		}
	}
	if best.Order == 9 {
		return 0, api.ErrMem
	}
	w.blocks++
	w.held[w.blocks] = block(best.Frame, order)
	for n := range 1 << order {
		w.frames[best.Frame+n] = w.blocks
	}
	return best.Frame, api.OK
}

// release is what Free must answer.
func (w *model) release(frame, order int) api.Errno {
	for number, b := range w.held {
		if b != block(frame, order) {
			continue
		}
		delete(w.held, number)
		for n := range 1 << order {
			w.frames[frame+n] = free
			clear(w.words[(frame+n)*16:][:16])
		}
		return api.OK
	}
	return api.ErrNone
}

// bench is an allocator, its memory, and what they must tell.
type bench struct {
	*testing.T
	m *memory.Memory
	b *buddy.Buddy
	w *model
}

// made is a memory of so many frames, in which no word is 0.
func made(t *testing.T, frames int) *memory.Memory {
	t.Helper()
	m, e := memory.New(frames)
	if e != api.OK {
		t.Fatalf("memory.New(%d): %v", frames, e)
	}
	for addr := range frames * 16 {
		m.Write(addr, uint64(addr)+1000)
	}
	return m
}

// start is an allocator of a memory of so many frames.
func start(t *testing.T, frames, many int) *bench {
	t.Helper()
	m := made(t, frames)
	b, e := buddy.New(m, many)
	if b == nil || e != api.OK {
		t.Fatalf("New(%d frames, %d) = %v, %v", frames, many, b, e)
	}
	w := &model{frames: make([]int, frames), held: map[int]buddy.Block{}, words: make([]uint64, frames*16)}
	for n := range many {
		w.frames[n] = reserved
	}
	for addr := range w.words {
		w.words[addr] = uint64(addr) + 1000
	}
	return &bench{T: t, m: m, b: b, w: w}
}

// holds asks for all of an allocator and of its memory.
func (x *bench) holds(after string, about ...any) {
	x.Helper()
	if got, want := x.b.Blocks(), x.w.maximal(); !slices.Equal(got, want) {
		x.Fatalf("after "+after+": Blocks() = %v, want %v", append(about, got, want)...)
	}
	if got, want := x.b.Held(), x.w.list(); !slices.Equal(got, want) {
		x.Fatalf("after "+after+": Held() = %v, want %v", append(about, got, want)...)
	}
	if got, want := x.b.Left(), x.w.left(); got != want {
		x.Fatalf("after "+after+": Left() = %d, want %d", append(about, got, want)...)
	}
	for addr, want := range x.w.words {
		if got, _ := x.m.Read(addr); got != want {
			x.Fatalf("after "+after+": at %d stands %d, want %d", append(about, addr, got, want)...)
		}
	}
}

// alloc calls Alloc, and holds all against what it must tell.
func (x *bench) alloc(order int) (int, api.Errno) {
	x.Helper()
	want, wantE := x.w.alloc(order)
	got, e := x.b.Alloc(order)
	if got != want || e != wantE {
		x.Fatalf("Alloc(%d) = %d, %v, want %d, %v", order, got, e, want, wantE)
	}
	x.holds("Alloc(%d)", order)
	return got, e
}

// release calls Free, and holds all against what it must tell.
func (x *bench) release(frame, order int) api.Errno {
	x.Helper()
	want := x.w.release(frame, order)
	e := x.b.Free(frame, order)
	if e != want {
		x.Fatalf("Free(%d, %d) = %v, want %v", frame, order, e, want)
	}
	x.holds("Free(%d, %d)", frame, order)
	return e
}

// gives allocates a block of each order, which must have these frames.
func (x *bench) gives(orders, frames []int) {
	x.Helper()
	for i, order := range orders {
		if frame, e := x.alloc(order); frame != frames[i] || e != api.OK {
			x.Fatalf("block %d of orders %v: Alloc(%d) = %d, %v, want %d", i, orders, order, frame, e, frames[i])
		}
	}
}

// The document's example, to the end of its frames.
func TestExample(t *testing.T) {
	x := start(t, 8, 1)
	if got, want := x.b.Blocks(), []buddy.Block{block(1, 0), block(2, 1), block(4, 2)}; !slices.Equal(got, want) {
		t.Errorf("Blocks() = %v, want %v", got, want)
	}
	if got := x.b.Left(); got != 7 {
		t.Errorf("Left() = %d, want 7", got)
	}
	x.gives([]int{1, 1}, []int{2, 4})
	if got, want := x.b.Blocks(), []buddy.Block{block(1, 0), block(6, 1)}; !slices.Equal(got, want) {
		t.Errorf("Blocks() = %v, want %v", got, want)
	}
	if got, want := x.b.Held(), []buddy.Block{block(2, 1), block(4, 1)}; !slices.Equal(got, want) {
		t.Errorf("Held() = %v, want %v", got, want)
	}
	if got := x.b.Left(); got != 3 {
		t.Errorf("Left() = %d, want 3", got)
	}
}

// P4.1: each number of reserved frames, of every memory, and what is told at
// first. The memory's words stay as they are.
func TestNew(t *testing.T) {
	for _, frames := range sizes {
		for many := range frames + 1 {
			x := start(t, frames, many)
			x.holds("New(%d frames, %d)", frames, many)
			if got := x.b.Left(); got != frames-many {
				t.Errorf("New(%d frames, %d): Left() = %d", frames, many, got)
			}
		}
	}
}

// P4.1: the edges that are named, with the blocks written out.
func TestNewEdges(t *testing.T) {
	ladder := func(from, to int) []buddy.Block { // from 2^from to 2^to
		var out []buddy.Block
		for order := from; order < to; order++ {
			out = append(out, block(1<<order, order))
		}
		return out
	}
	down := func(first int) []buddy.Block { // from 0 to 2^(first+1) - 1
		var out []buddy.Block
		frame := 0
		for order := first; order >= 0; order-- {
			out = append(out, block(frame, order))
			frame += 1 << order
		}
		return out
	}
	odd := append(append([]buddy.Block{block(1, 0)}, ladder(1, 7)...), block(128, 6), block(192, 5), block(224, 4), block(240, 3), block(248, 2), block(252, 1), block(254, 0))
	for _, c := range []struct {
		frames, reserved int
		e                api.Errno
		want             []buddy.Block
	}{
		{1, -1, api.ErrArg, nil}, {1, 0, api.OK, []buddy.Block{block(0, 0)}}, {1, 1, api.OK, nil}, {1, 2, api.ErrArg, nil},
		{8, -1, api.ErrArg, nil}, {8, 0, api.OK, []buddy.Block{block(0, 3)}}, {8, 1, api.OK, ladder(0, 3)}, {8, 8, api.OK, nil}, {8, 9, api.ErrArg, nil}, {8, 7, api.OK, []buddy.Block{block(7, 0)}},
		{255, -1, api.ErrArg, nil}, {255, 0, api.OK, down(7)}, {255, 1, api.OK, odd}, {255, 255, api.OK, nil}, {255, 256, api.ErrArg, nil},
		{256, -1, api.ErrArg, nil}, {256, 0, api.OK, []buddy.Block{block(0, 8)}}, {256, 1, api.OK, ladder(0, 8)}, {256, 256, api.OK, nil}, {256, 257, api.ErrArg, nil},
	} {
		b, e := buddy.New(made(t, c.frames), c.reserved)
		if e != c.e || (b == nil) != (e != api.OK) {
			t.Errorf("New(%d frames, %d) = %v, %v, want %v", c.frames, c.reserved, b, e, c.e)
			continue
		}
		if b == nil {
			continue
		}
		if got := b.Blocks(); !slices.Equal(got, c.want) {
			t.Errorf("New(%d frames, %d): Blocks() = %v, want %v", c.frames, c.reserved, got, c.want)
		}
		if got := b.Held(); len(got) != 0 {
			t.Errorf("New(%d frames, %d): Held() = %v", c.frames, c.reserved, got)
		}
		if got := b.Left(); got != c.frames-c.reserved {
			t.Errorf("New(%d frames, %d): Left() = %d", c.frames, c.reserved, got)
		}
	}
}

// P4.1, P0: no memory, and numbers of reserved frames that it can't have.
func TestNewWrong(t *testing.T) {
	for _, many := range edges {
		if b, e := buddy.New(nil, many); b != nil || e != api.ErrArg {
			t.Errorf("New(nil, %d) = %v, %v, want nil, ErrArg", many, b, e)
		}
		for _, frames := range sizes {
			if many >= 0 && many <= frames {
				continue
			}
			m := made(t, frames)
			if b, e := buddy.New(m, many); b != nil || e != api.ErrArg {
				t.Errorf("New(%d frames, %d) = %v, %v, want nil, ErrArg", frames, many, b, e)
			}
			if w, _ := m.Read(0); w != 1000 {
				t.Errorf("New(%d frames, %d) writes", frames, many)
			}
		}
	}
}

// P4.1, P4.4: reserved frames are never free: neither at first, nor after all
// others have been allocated and freed; nor are frames beyond the memory.
func TestReserved(t *testing.T) {
	for _, c := range []struct{ frames, reserved int }{{1, 1}, {8, 1}, {8, 3}, {8, 8}, {100, 37}, {255, 200}, {256, 255}, {256, 256}} {
		x := start(t, c.frames, c.reserved)
		for n := c.reserved; n < c.frames; n++ {
			if frame, e := x.b.Alloc(0); frame < c.reserved || frame >= c.frames || e != api.OK {
				t.Fatalf("%d frames, %d reserved: Alloc(0) = %d, %v", c.frames, c.reserved, frame, e)
			}
		}
		for order := range 9 {
			if frame, e := x.b.Alloc(order); frame != 0 || e != api.ErrMem {
				t.Errorf("%d frames, %d reserved, all allocated: Alloc(%d) = %d, %v", c.frames, c.reserved, order, frame, e)
			}
		}
		for frame := range c.frames + 1 {
			want := api.ErrNone
			if frame >= c.reserved && frame < c.frames {
				want = api.OK
				clear(x.w.words[frame*16:][:16])
			}
			if e := x.b.Free(frame, 0); e != want {
				t.Errorf("%d frames, %d reserved: Free(%d, 0) = %v, want %v", c.frames, c.reserved, frame, e, want)
			}
		}
		x.holds("all were allocated and freed")
	}
}

// P4.2: a block of each order, of every memory, till there is none left.
func TestAlloc(t *testing.T) {
	for _, frames := range sizes {
		for _, many := range []int{0, 1, 5, frames / 2, frames} {
			for order := range 9 {
				if many > frames {
					continue
				}
				x := start(t, frames, many)
				for {
					if _, e := x.alloc(order); e != api.OK {
						break
					}
				}
			}
		}
	}
}

// P4.2: an allocated block of the least and of the greatest order.
func TestAllocEnds(t *testing.T) {
	x := start(t, 256, 0)
	x.gives([]int{8}, []int{0})
	for order := range 9 {
		if frame, e := x.alloc(order); frame != 0 || e != api.ErrMem {
			t.Errorf("all is one block: Alloc(%d) = %d, %v", order, frame, e)
		}
	}
	x.release(0, 8)
	x.gives([]int{0}, []int{0})
	if _, e := x.alloc(8); e != api.ErrMem {
		t.Errorf("Alloc(8) beside a block of order 0: %v", e)
	}
	x.gives([]int{7}, []int{128})
	x = start(t, 255, 0)
	if _, e := x.alloc(8); e != api.ErrMem {
		t.Errorf("255 frames: Alloc(8): %v", e)
	}
	x = start(t, 256, 1)
	if _, e := x.alloc(8); e != api.ErrMem {
		t.Errorf("1 of 256 frames reserved: Alloc(8): %v", e)
	}
	x.gives([]int{7, 6, 0, 0}, []int{128, 64, 1, 2})
	x = start(t, 1, 0)
	x.gives([]int{0}, []int{0})
}

// P4.2: no maximal block is long enough, though enough frames are free.
func TestAllocNoneLongEnough(t *testing.T) {
	x := start(t, 8, 1)
	if frame, e := x.alloc(3); frame != 0 || e != api.ErrMem {
		t.Errorf("Alloc(3) = %d, %v, want 0, ErrMem", frame, e)
	}
	// Frames 3 to 6 are free, and 1, but 4 in a row of which the first is a
	// multiple of 4 are not.
	x = start(t, 8, 0)
	x.gives([]int{0, 0, 0, 0, 0, 0, 0, 0}, []int{0, 1, 2, 3, 4, 5, 6, 7})
	for _, frame := range []int{1, 3, 4, 5, 6} {
		x.release(frame, 0)
	}
	if frame, e := x.alloc(2); frame != 0 || e != api.ErrMem {
		t.Errorf("Alloc(2) = %d, %v, want 0, ErrMem", frame, e)
	}
	x.gives([]int{1, 0, 0, 0}, []int{4, 1, 3, 6})
	if frame, e := x.alloc(0); frame != 0 || e != api.ErrMem {
		t.Errorf("Alloc(0) with nothing free = %d, %v, want 0, ErrMem", frame, e)
	}
}

// P4.2: the least order is selected, though a longer block comes first.
func TestAllocLeastOrder(t *testing.T) {
	// The blocks from 0 to 254 are of the orders 7 to 0: the least is the last.
	x := start(t, 255, 0)
	x.gives([]int{0, 0, 0, 1}, []int{254, 252, 253, 248})
	x.gives([]int{4, 6, 7}, []int{224, 128, 0})
	// A hole of order 1 behind one of order 2: it is taken first by order 0
	// and by order 1, and by order 2 it is passed over.
	hole := func() *bench {
		x := start(t, 16, 0)
		x.gives([]int{2, 2, 2, 1, 1}, []int{0, 4, 8, 12, 14})
		x.release(4, 2)
		x.release(12, 1)
		return x
	}
	hole().gives([]int{0, 0, 0}, []int{12, 13, 4})
	hole().gives([]int{1, 1}, []int{12, 4})
	hole().gives([]int{2, 1}, []int{4, 12})
}

// P4.2: of several blocks of the least order the first is selected, in
// whatever order they were freed.
func TestAllocLeastFrame(t *testing.T) {
	for _, freed := range [][]int{{2, 6, 10}, {10, 6, 2}, {6, 10, 2}, {6, 2, 10}} {
		for order := range 2 {
			x := start(t, 16, 0)
			x.gives([]int{1, 1, 1, 1, 1, 1, 1, 1}, []int{0, 2, 4, 6, 8, 10, 12, 14})
			for _, frame := range freed {
				x.release(frame, 1)
			}
			if order == 0 {
				x.gives([]int{0, 0, 0, 0, 0, 0}, []int{2, 3, 6, 7, 10, 11})
			} else {
				x.gives([]int{1, 1, 1}, []int{2, 6, 10})
			}
			if _, e := x.alloc(order); e != api.ErrMem {
				t.Errorf("Alloc(%d) with no hole left: %v", order, e)
			}
		}
	}
}

// P4.2, P0: orders that there are none of, with free frames and without: that
// there is no such order is told first.
func TestAllocWrong(t *testing.T) {
	for _, many := range []int{0, 1, 256} {
		x := start(t, 256, many)
		x.alloc(3)
		for _, order := range edges {
			if order >= 0 && order <= 8 {
				continue
			}
			if frame, e := x.alloc(order); frame != 0 || e != api.ErrArg {
				t.Errorf("Alloc(%d) = %d, %v, want 0, ErrArg", order, frame, e)
			}
		}
	}
}

// P4.3: a block of each order is freed, by just its frame and order: all else
// is ErrNone and changes nothing.
func TestFree(t *testing.T) {
	for order := range 9 {
		x := start(t, 256, 0)
		if order < 8 {
			x.gives([]int{order}, []int{0}) // so that the block is not at 0
		}
		frame, _ := x.alloc(order)
		for other := -1; other <= 9; other++ {
			if other != order {
				if e := x.release(frame, other); e != api.ErrNone {
					t.Errorf("block %d of order %d: Free(%d, %d) = %v", frame, order, frame, other, e)
				}
			}
		}
		for n := 1; n < 1<<order; n++ {
			if e := x.b.Free(frame+n, order); e != api.ErrNone {
				t.Errorf("block %d of order %d: Free(%d, %d) = %v", frame, order, frame+n, order, e)
			}
			if e := x.b.Free(frame+n, 0); e != api.ErrNone {
				t.Errorf("block %d of order %d: Free(%d, 0) = %v", frame, order, frame+n, e)
			}
		}
		x.holds("Free within block %d of order %d", frame, order)
		if e := x.release(frame, order); e != api.OK {
			t.Errorf("Free(%d, %d) = %v", frame, order, e)
		}
		if e := x.release(frame, order); e != api.ErrNone {
			t.Errorf("Free(%d, %d) again = %v", frame, order, e)
		}
	}
}

// P4.3: blocks that were never allocated: free ones, reserved ones, a pair of
// allocated ones as if it were one, and one that was taken from a larger one.
func TestFreeNever(t *testing.T) {
	x := start(t, 16, 4)
	for _, b := range []buddy.Block{block(4, 2), block(8, 3), block(8, 0), block(0, 0), block(0, 2), block(16, 0)} {
		if e := x.release(b.Frame, b.Order); e != api.ErrNone {
			t.Errorf("nothing allocated: Free(%d, %d) = %v", b.Frame, b.Order, e)
		}
	}
	x.gives([]int{1, 1, 0}, []int{4, 6, 8})
	for _, b := range []buddy.Block{block(4, 2), block(8, 3), block(8, 1), block(9, 0), block(10, 1), block(5, 0), block(4, 0), block(6, 0)} {
		if e := x.release(b.Frame, b.Order); e != api.ErrNone {
			t.Errorf("Free(%d, %d) = %v", b.Frame, b.Order, e)
		}
	}
	// A block that was freed and is part of another one by now.
	x.release(4, 1)
	x.release(6, 1)
	x.gives([]int{2}, []int{4})
	for _, frame := range []int{4, 6} {
		if e := x.release(frame, 1); e != api.ErrNone {
			t.Errorf("Free(%d, 1), which is allocated anew with order 2 = %v", frame, e)
		}
	}
	x.release(4, 2)
}

// P4.3, P0: all pairs of edges, the ends of int among them.
func TestFreeWrong(t *testing.T) {
	x := start(t, 256, 1)
	x.gives([]int{0, 7, 3}, []int{1, 128, 8})
	for _, frame := range edges {
		for _, order := range edges {
			if b := block(frame, order); b == block(1, 0) || b == block(128, 7) || b == block(8, 3) {
				continue
			}
			if e := x.b.Free(frame, order); e != api.ErrNone {
				t.Errorf("Free(%d, %d) = %v, want ErrNone", frame, order, e)
			}
		}
		x.holds("Free(%d)", frame)
	}
}

// P4.3, P4.4: the words of a freed block are 0, written before or not, those
// of its neighbours stay; the block is allocated again with its words at 0.
func TestFreeWords(t *testing.T) {
	for order := range 8 {
		x := start(t, 256, 0)
		many := 1 << order
		x.gives([]int{order, order}, []int{0, many})
		for _, addr := range []int{many * 16, many*16 + 15, 2*many*16 - 16, 2*many*16 - 1} {
			x.m.Write(addr, math.MaxUint64)
			x.w.words[addr] = math.MaxUint64
		}
		x.holds("writes")
		x.release(many, order)
		for frame := range 256 {
			if got, want := x.m.Zero(frame), frame >= many && frame < 2*many; got != want {
				t.Errorf("Free(%d, %d): Zero(%d) = %v", many, order, frame, got)
			}
		}
		x.gives([]int{order}, []int{many})
		x.release(many, order)
	}
}

// P4.3: a block is freed only once, and its Frame may be allocated again by
// another order, which alone frees it then.
func TestFreeAnotherOrder(t *testing.T) {
	x := start(t, 8, 0)
	for order := range 4 {
		x.gives([]int{order}, []int{0})
		for other := range 4 {
			if other != order {
				x.release(0, other)
			}
		}
		if e := x.release(0, order); e != api.OK {
			t.Errorf("Free(0, %d) = %v", order, e)
		}
	}
}

// turns are the numbers from 0 to many - 1 in several orders: forwards,
// backwards, and each second one first.
func turns(many int) [][]int {
	var forwards, even, odd []int
	for n := range many {
		forwards = append(forwards, n)
		if n%2 == 0 {
			even = append(even, n)
		} else {
			odd = append(odd, n)
		}
	}
	backwards := slices.Clone(forwards)
	slices.Reverse(backwards)
	return [][]int{forwards, backwards, slices.Concat(even, odd), slices.Concat(odd, even)}
}

// P4.4: all blocks of each order are allocated and freed, in several orders;
// the maximal free blocks are the initial ones.
func TestAllFreed(t *testing.T) {
	for _, c := range []struct{ frames, reserved int }{{1, 0}, {8, 0}, {8, 1}, {100, 3}, {255, 0}, {255, 1}, {256, 0}, {256, 1}, {256, 77}} {
		for order := range 9 {
			x := start(t, c.frames, c.reserved)
			first := x.b.Blocks()
			most := 0
			for _, b := range first {
				most += 1 << b.Order >> order
			}
			for _, turn := range turns(most) {
				var frames []int
				for range most {
					frame, _ := x.w.alloc(order)
					frames = append(frames, frame)
					if got, e := x.b.Alloc(order); got != frame || e != api.OK {
						t.Fatalf("Alloc(%d) = %d, %v, want %d, OK", order, got, e, frame)
					}
				}
				x.holds("all of order %d were allocated", order)
				for _, n := range turn {
					x.w.release(frames[n], order)
					if e := x.b.Free(frames[n], order); e != api.OK {
						t.Fatalf("Free(%d, %d) = %v", frames[n], order, e)
					}
				}
				x.holds("all of order %d were freed", order)
				if got := x.b.Blocks(); !slices.Equal(got, first) {
					t.Errorf("all of order %d freed: Blocks() = %v, want %v", order, got, first)
				}
			}
		}
	}
}

// P4.4: only the two halves of a block join: 3 and 4 don't, nor do 2 to 5.
func TestJoin(t *testing.T) {
	x := start(t, 8, 0)
	x.gives([]int{0, 0, 0, 0, 0, 0, 0, 0}, []int{0, 1, 2, 3, 4, 5, 6, 7})
	for _, c := range []struct {
		frame int
		want  []buddy.Block
	}{
		{3, []buddy.Block{block(3, 0)}},
		{4, []buddy.Block{block(3, 0), block(4, 0)}},
		{5, []buddy.Block{block(3, 0), block(4, 1)}},
		{2, []buddy.Block{block(2, 1), block(4, 1)}},
		{7, []buddy.Block{block(2, 1), block(4, 1), block(7, 0)}},
		{6, []buddy.Block{block(2, 1), block(4, 2)}},
		{0, []buddy.Block{block(0, 0), block(2, 1), block(4, 2)}},
		{1, []buddy.Block{block(0, 3)}},
	} {
		x.release(c.frame, 0)
		if got := x.b.Blocks(); !slices.Equal(got, c.want) {
			t.Errorf("Free(%d, 0): Blocks() = %v, want %v", c.frame, got, c.want)
		}
	}
}

// P4.1 to P4.4: a long mixture of calls, right and wrong ones, and of writes
// to memory, beside a plain list of frames; at the end all blocks are freed.
func TestMixture(t *testing.T) {
	for seed, c := range []struct{ frames, reserved int }{{1, 0}, {8, 1}, {37, 5}, {64, 0}, {100, 1}, {255, 0}, {255, 16}, {256, 0}, {256, 1}} {
		x := start(t, c.frames, c.reserved)
		first := x.b.Blocks()
		state := uint64(seed)
		next := func(many int) int { // a fixed sequence, so that a failure comes again
			state = state*6364136223846793005 + 1442695040888963407
			return int(state >> 33 % uint64(many))
		}
		for step := range 1000 {
			addr := next(c.frames * 16)
			x.m.Write(addr, uint64(step)+1)
			x.w.words[addr] = uint64(step) + 1
			if held := x.w.list(); len(held) > 0 && next(2) == 0 {
				b := held[next(len(held))]
				x.release(b.Frame+max(0, next(8)-6), b.Order+max(0, next(8)-6))
			} else {
				x.alloc(next(1+next(11)) - 1)
			}
		}
		for _, b := range x.w.list() {
			if e := x.release(b.Frame, b.Order); e != api.OK {
				t.Fatalf("Free(%d, %d) = %v", b.Frame, b.Order, e)
			}
		}
		if got := x.b.Blocks(); !slices.Equal(got, first) {
			t.Errorf("%d frames, %d reserved, all freed: Blocks() = %v, want %v", c.frames, c.reserved, got, first)
		}
	}
}

// R3, R4: what Blocks and Held return belongs to the caller: a change of it,
// or of what lies behind its end, changes no later answer.
func TestResultsBelongToCaller(t *testing.T) {
	x := start(t, 256, 1)
	x.gives([]int{3, 0, 5, 1}, []int{8, 1, 32, 2})
	for range 2 {
		for _, list := range [][]buddy.Block{x.b.Blocks(), x.b.Held()} {
			for i := range list {
				list[i] = block(-1, 99)
			}
			_ = append(list, block(77, 3))
			x.holds("a change of what was returned")
		}
		x.alloc(0)
		x.release(32, 5)
	}
	// And a later call changes nothing in what was returned.
	blocks, held := x.b.Blocks(), x.b.Held()
	sameBlocks, sameHeld := slices.Clone(blocks), slices.Clone(held)
	x.alloc(2)
	x.release(8, 3)
	x.b.Blocks()
	x.b.Held()
	if !slices.Equal(blocks, sameBlocks) || !slices.Equal(held, sameHeld) {
		t.Errorf("what was returned is %v and %v, was %v and %v", blocks, held, sameBlocks, sameHeld)
	}
}

// R4: two allocators have no blocks in common, though they have a memory.
func TestApart(t *testing.T) {
	x, y := start(t, 16, 0), start(t, 16, 3)
	x.gives([]int{1, 0}, []int{0, 2})
	y.holds("Alloc of another allocator")
	y.gives([]int{2}, []int{4})
	x.holds("Alloc of another allocator")
	if e := y.release(0, 1); e != api.ErrNone {
		t.Errorf("a block of another allocator: Free(0, 1) = %v", e)
	}
	x.release(0, 1)
	y.holds("Free of another allocator")
	z, _ := buddy.New(x.m, 8)
	if frame, e := z.Alloc(3); frame != 8 || e != api.OK {
		t.Errorf("Alloc(3) = %d, %v, want 8, OK", frame, e)
	}
	x.holds("Alloc of another allocator of the memory")
	if got := z.Left(); got != 0 {
		t.Errorf("Left() = %d, want 0", got)
	}
}
