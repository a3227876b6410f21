package memory_test

import (
	"math"
	"testing"

	"trunnion/api"
	"trunnion/memory"
)

const (
	all   = ^uint64(0)
	count = api.FrameWords
)

// edges are numbers around all bounds of frames and addresses of a memory of
// 3 and of 256 frames, and the ends of int. Times or divided by 16, or added
// to one another, many of them wrap round to numbers that there are.
var edges = []int{math.MinInt, math.MinInt + 1, math.MinInt + 2, math.MinInt + 16, math.MinInt / 16, math.MinInt32, -257, -256, -17, -16, -15, -3, -2, -1, 0, 1, 2, 3, 4, 5, 15, 16, 17, 31, 32, 47, 48, 49, 63, 64, 255, 256, 257, 4095, 4096, 4097, math.MaxInt32, math.MaxInt / 16, math.MaxInt/16 + 1, math.MaxInt - 16, math.MaxInt - 2, math.MaxInt - 1, math.MaxInt}

// made is a memory of so many frames.
func made(t *testing.T, frames int) *memory.Memory {
	t.Helper()
	m, e := memory.New(frames)
	if e != api.OK || m == nil {
		t.Fatalf("New(%d) = %v, %v, want a memory, OK", frames, m, e)
	}
	return m
}

// mark is a word that no other address has, and that is not 0.
func mark(addr int) uint64 { return uint64(addr+1) * 0x9E3779B97F4A7C15 }

// marked is a memory of so many frames that has its mark at every address,
// and the words that it must have.
func marked(t *testing.T, frames int) (*memory.Memory, []uint64) {
	t.Helper()
	m := made(t, frames)
	want := make([]uint64, frames*count)
	for addr := range want {
		want[addr] = mark(addr)
		if e := m.Write(addr, want[addr]); e != api.OK {
			t.Fatalf("Write(%d) = %v", addr, e)
		}
	}
	return m, want
}

// holds asks for all of a memory, by words and by frames.
func holds(t *testing.T, m *memory.Memory, want []uint64, after string, about ...any) {
	t.Helper()
	if m.Frames() != len(want)/count {
		t.Fatalf("after "+after+": Frames() = %d, want %d", append(about, m.Frames(), len(want)/count)...)
	}
	for addr, x := range want {
		if w, e := m.Read(addr); w != x || e != api.OK {
			t.Fatalf("after "+after+": Read(%d) = %#x, %v, want %#x, OK", append(about, addr, w, e, x)...)
		}
	}
	for frame := range len(want) / count {
		f := [count]uint64(want[frame*count : (frame+1)*count])
		if w, e := m.Frame(frame); w != f || e != api.OK {
			t.Fatalf("after "+after+": Frame(%d) = %#x, %v, want %#x, OK", append(about, frame, w, e, f)...)
		}
		if z := m.Zero(frame); z != (f == [count]uint64{}) {
			t.Fatalf("after "+after+": Zero(%d) = %v, its words are %#x", append(about, frame, z, f)...)
		}
	}
}

// P2.1: every number of frames that may be, with all words 0.
func TestNew(t *testing.T) {
	for frames := 1; frames <= 256; frames++ {
		m := made(t, frames)
		holds(t, m, make([]uint64, frames*count), "New(%d)", frames)
		if _, e := m.Read(frames * count); e != api.ErrArg {
			t.Errorf("New(%d): Read behind the last word: %v, want ErrArg", frames, e)
		}
	}
}

// P2.1, P0, R1: numbers of frames that may not be.
func TestNewNone(t *testing.T) {
	for _, frames := range append(edges, -300, 258, 512) {
		if frames >= 1 && frames <= 256 {
			continue
		}
		if m, e := memory.New(frames); m != nil || e != api.ErrArg {
			t.Errorf("New(%d) = %v, %v, want nil, ErrArg", frames, m, e)
		}
	}
}

// P2.1, R4: two memories have nothing in common.
func TestNewApart(t *testing.T) {
	a, b := made(t, 2), made(t, 2)
	a.Write(5, 7)
	holds(t, b, make([]uint64, 2*count), "Write to another memory")
	b.Fill(0, [count]uint64{5: 8})
	if w, e := a.Read(5); w != 7 || e != api.OK {
		t.Errorf("Read(5) = %d, %v, want 7, OK", w, e)
	}
}

// P2.2: the document's example, and the first and the last address of a
// frame and of the memory.
func TestReadWrite(t *testing.T) {
	m := made(t, 3)
	want := make([]uint64, 3*count)
	for _, c := range []struct {
		addr int
		w    uint64
	}{{17, 5}, {0, 1}, {15, 2}, {16, 3}, {31, all}, {32, 1 << 63}, {47, 6}, {17, 9}, {17, 0}} {
		if e := m.Write(c.addr, c.w); e != api.OK {
			t.Errorf("Write(%d, %#x) = %v, want OK", c.addr, c.w, e)
		}
		want[c.addr] = c.w
		holds(t, m, want, "Write(%d, %#x)", c.addr, c.w)
	}
	m.Write(17, 5)
	if w, e := m.Frame(1); w[1] != 5 || e != api.OK {
		t.Errorf("Frame(1) = %d, %v, want 5 as its second word", w, e)
	}
}

// P2.2, P0, R1: addresses that no frame contains; nothing changes.
func TestNoAddress(t *testing.T) {
	for _, frames := range []int{1, 3, 256} {
		m, want := marked(t, frames)
		for _, addr := range append(edges, frames*count-1, frames*count, frames*count+1) {
			if addr >= 0 && addr < frames*count {
				continue
			}
			if w, e := m.Read(addr); w != 0 || e != api.ErrArg {
				t.Errorf("%d frames: Read(%d) = %#x, %v, want 0, ErrArg", frames, addr, w, e)
			}
			if e := m.Write(addr, 77); e != api.ErrArg {
				t.Errorf("%d frames: Write(%d) = %v, want ErrArg", frames, addr, e)
			}
			holds(t, m, want, "Write(%d)", addr)
		}
	}
}

// P2.3: every run of frames of a small memory and around its ends; the ones
// that do not all exist change nothing.
func TestScrub(t *testing.T) {
	const frames = 5
	for frame := -2; frame <= frames+1; frame++ {
		for many := -2; many <= frames+2; many++ {
			m, want := marked(t, frames)
			is := many >= 1 && frame >= 0 && frame+many <= frames
			if is {
				clear(want[frame*count : (frame+many)*count])
			}
			if e := m.Scrub(frame, many); (e == api.OK) != is || !is && e != api.ErrArg {
				t.Errorf("Scrub(%d, %d) = %v, want OK: %v", frame, many, e, is)
			}
			holds(t, m, want, "Scrub(%d, %d)", frame, many)
		}
	}
}

// P2.3: the last frame, all frames, and one more than all, of the least and
// the greatest memory.
func TestScrubEnds(t *testing.T) {
	for _, frames := range []int{1, 256} {
		m, want := marked(t, frames)
		for _, c := range [][2]int{{0, frames + 1}, {frames - 1, 2}, {frames, 1}, {frames, 0}, {0, 0}, {frames - 1, 0}, {-1, frames + 1}, {-1, 1}} {
			if e := m.Scrub(c[0], c[1]); e != api.ErrArg {
				t.Errorf("%d frames: Scrub(%d, %d) = %v, want ErrArg", frames, c[0], c[1], e)
			}
			holds(t, m, want, "Scrub(%d, %d)", c[0], c[1])
		}
		if e := m.Scrub(frames-1, 1); e != api.OK {
			t.Errorf("%d frames: Scrub(%d, 1) = %v, want OK", frames, frames-1, e)
		}
		clear(want[(frames-1)*count:])
		holds(t, m, want, "Scrub(%d, 1)", frames-1)
		if e := m.Scrub(0, frames); e != api.OK {
			t.Errorf("%d frames: Scrub(0, %d) = %v, want OK", frames, frames, e)
		}
		clear(want)
		holds(t, m, want, "Scrub(0, %d)", frames)
	}
}

// P2.3, P0: all pairs of edges that are not frames, the ends of int among
// them; nothing changes.
func TestScrubNone(t *testing.T) {
	m, want := marked(t, 3)
	for _, frame := range edges {
		for _, many := range edges {
			if frame >= 0 && frame < 3 && many >= 1 && many <= 3-frame {
				continue
			}
			if e := m.Scrub(frame, many); e != api.ErrArg {
				t.Errorf("Scrub(%d, %d) = %v, want ErrArg", frame, many, e)
			}
			holds(t, m, want, "Scrub(%d, %d)", frame, many)
		}
	}
}

// P2.3: a frame is not zero for the sake of a single word, or a single bit.
func TestZero(t *testing.T) {
	m := made(t, 3)
	for addr := range 3 * count {
		for _, w := range []uint64{1, 1 << 63, all} {
			m.Write(addr, w)
			for frame := range 3 {
				if z := m.Zero(frame); z != (frame != addr/count) {
					t.Errorf("Zero(%d) = %v, with %#x at the address %d", frame, z, w, addr)
				}
			}
			m.Write(addr, 0)
			if !m.Zero(addr / count) {
				t.Errorf("Zero(%d) = false, with 0 at the address %d again", addr/count, addr)
			}
		}
	}
}

// P2.3, P0, R1: frames that do not exist; nothing changes.
func TestNoFrame(t *testing.T) {
	for _, frames := range []int{1, 3, 256} {
		m, want := marked(t, frames)
		for _, frame := range append(edges, frames-1, frames, frames+1) {
			if frame >= 0 && frame < frames {
				continue
			}
			if m.Zero(frame) {
				t.Errorf("%d frames: Zero(%d) = true, want false", frames, frame)
			}
			if w, e := m.Frame(frame); w != [count]uint64{} || e != api.ErrArg {
				t.Errorf("%d frames: Frame(%d) = %#x, %v, want noughts, ErrArg", frames, frame, w, e)
			}
			if e := m.Fill(frame, [count]uint64{1, 2, 3}); e != api.ErrArg {
				t.Errorf("%d frames: Fill(%d) = %v, want ErrArg", frames, frame, e)
			}
			holds(t, m, want, "Fill(%d)", frame)
		}
		if noughts := made(t, frames); noughts.Zero(frames) || noughts.Zero(-1) {
			t.Errorf("%d frames, all noughts: Zero of a frame that does not exist", frames)
		}
	}
}

// P2.3: all 16 words of a frame, and no others.
func TestFill(t *testing.T) {
	for _, frames := range []int{1, 3, 256} {
		for _, frame := range []int{0, frames / 2, frames - 1} {
			m, want := marked(t, frames)
			var f [count]uint64
			for n := range f {
				f[n] = all - uint64(n)
			}
			for _, w := range [][count]uint64{f, {}, {15: 9}, {0: 8}} {
				copy(want[frame*count:], w[:])
				if e := m.Fill(frame, w); e != api.OK {
					t.Errorf("%d frames: Fill(%d) = %v, want OK", frames, frame, e)
				}
				holds(t, m, want, "Fill(%d, %#x)", frame, w)
			}
		}
	}
}

// P2.3, R3: what Frame returned is the caller's, and does not follow the
// memory; what was handed to Fill is not kept.
func TestNotShared(t *testing.T) {
	m, want := marked(t, 3)
	got, _ := m.Frame(1)
	before := got
	got[0], got[15] = 1, 2
	holds(t, m, want, "what Frame returned was changed")
	got = before
	m.Write(16, 3)
	m.Scrub(1, 1)
	if got != before {
		t.Errorf("what Frame returned has changed to %#x", got)
	}
	given := [count]uint64{0: 4, 15: 5}
	kept := given
	m.Fill(1, given)
	copy(want[count:2*count], given[:])
	if given != kept {
		t.Errorf("Fill has changed what it was given to %#x", given)
	}
	given[0], given[15] = 6, 7
	holds(t, m, want, "what Fill was given was changed")
	m.Write(16, 8)
	if given != [count]uint64{0: 6, 15: 7} {
		t.Errorf("Write has changed what Fill was given to %#x", given)
	}
}

// P2.4: a long mixture of calls, right and wrong ones, beside plain words;
// after each of them every word is the one that was written last.
func TestWordStays(t *testing.T) {
	for _, frames := range []int{1, 2, 7, 256} {
		m, want := marked(t, frames)
		state := uint64(frames)
		next := func(many int) int { // a fixed sequence, so that a failure comes again
			state = state*6364136223846793005 + 1442695040888963407
			return int(state >> 33 % uint64(many))
		}
		for range 100 + 2000/frames {
			addr, frame, many := next(frames*count+4)-2, next(frames+2)-1, next(frames+2)-1
			there := frame >= 0 && frame < frames
			switch next(4) {
			case 0:
				w := mark(next(1 << 20))
				m.Write(addr, w)
				if addr >= 0 && addr < len(want) {
					want[addr] = w
				}
			case 1:
				m.Scrub(frame, many)
				if there && many >= 1 && frame+many <= frames {
					clear(want[frame*count : (frame+many)*count])
				}
			case 2:
				var f [count]uint64
				for n := range f {
					f[n] = mark(next(1 << 20))
				}
				m.Fill(frame, f)
				if there {
					copy(want[frame*count:], f[:])
				}
			case 3:
				m.Read(addr)
				m.Zero(frame)
				m.Frame(frame)
			}
			holds(t, m, want, "a call with addr %d, frame %d, many %d", addr, frame, many)
		}
	}
}
