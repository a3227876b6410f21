package walk_test

import (
	"math"
	"slices"
	"testing"

	"trunnion/api"
	"trunnion/memory"
	"trunnion/walk"
)

// edges are numbers around all bounds of a frame, an index and a page, and the
// ends of int. Cut to 32, 16 or 8 bits, or times 16, many of them are right
// ones.
var edges = []int{math.MinInt, math.MinInt + 1, math.MinInt + 15, math.MinInt + 4095, math.MinInt / 16, math.MinInt/16 + 1, math.MinInt32, -65536, -4096, -4095, -257, -256, -255, -17, -16, -15, -2, -1, 0, 1, 2, 3, 4, 5, 14, 15, 16, 17, 31, 32, 127, 128, 254, 255, 256, 257, 511, 512, 4094, 4095, 4096, 4097, 65535, 65536, 65537, math.MaxInt32, 1 << 32, 1<<32 + 1, 1<<32 + 4095, 1 << 60, 1<<60 + 1, 1 << 62, math.MaxInt / 16, math.MaxInt/16 + 1, math.MaxInt - 15, math.MaxInt - 1, math.MaxInt}

// badWords are not the word of an entry.
var badWords = []uint64{2, 4, 6, 7, 8, 9, 128, 129, 255, 256, 258, 65280, 65287, 65536, 65537, 1 << 32, 1<<32 | 1, 1 << 63, 1<<63 | 1, 1<<63 | 5, math.MaxUint64 - 1, math.MaxUint64}

// badEntries are not well-formed.
var badEntries = []api.Entry{
	{Write: true},
	{Table: true},
	{Write: true, Table: true},
	{Frame: 1},
	{Frame: -1},
	{Frame: 255},
	{Frame: 256},
	{Frame: math.MinInt},
	{Frame: math.MaxInt},
	{Valid: true, Write: true, Table: true},
	{Valid: true, Write: true, Table: true, Frame: 3},
	{Valid: true, Frame: -1},
	{Valid: true, Frame: 256},
	{Valid: true, Frame: 1 << 32},
	{Valid: true, Frame: math.MinInt},
	{Valid: true, Frame: math.MaxInt},
	{Valid: true, Write: true, Frame: -1},
	{Valid: true, Write: true, Frame: 256},
	{Valid: true, Write: true, Frame: math.MinInt},
	{Valid: true, Write: true, Frame: math.MaxInt},
	{Valid: true, Table: true, Frame: -1},
	{Valid: true, Table: true, Frame: 256},
	{Valid: true, Table: true, Frame: math.MinInt},
	{Valid: true, Table: true, Frame: math.MaxInt},
}

// table, page and writable are entries that lead to a frame.
func table(frame int) api.Entry    { return api.Entry{Valid: true, Table: true, Frame: frame} }
func page(frame int) api.Entry     { return api.Entry{Valid: true, Frame: frame} }
func writable(frame int) api.Entry { return api.Entry{Valid: true, Write: true, Frame: frame} }

// wellFormed returns each entry that has a word, and the words, in one order.
func wellFormed() (entries []api.Entry, words []uint64) {
	entries, words = []api.Entry{{}}, []uint64{0}
	for frame := range 256 {
		entries = append(entries, page(frame), writable(frame), table(frame))
		w := uint64(256 * frame)
		words = append(words, w+1, w+3, w+5)
	}
	return entries, words
}

// made is a memory of so many frames.
func made(t *testing.T, frames int) *memory.Memory {
	t.Helper()
	m, err := memory.New(frames)
	if err != api.OK {
		t.Fatalf("New(%d): error %d", frames, err)
	}
	return m
}

// write stores a word at an index of a frame.
func write(t *testing.T, m *memory.Memory, frame, place int, w uint64) {
	t.Helper()
	if err := m.Write(16*frame+place, w); err != api.OK {
		t.Fatalf("Write(%d): error %d", 16*frame+place, err)
	}
}

// put stores an entry, which must be possible.
func put(t *testing.T, m *memory.Memory, frame, place int, e api.Entry) {
	t.Helper()
	if err := walk.Put(m, frame, place, e); err != api.OK {
		t.Fatalf("Put(%d, %d, %+v) = %d, want OK", frame, place, e, err)
	}
}

// words returns all of a memory.
func words(m *memory.Memory) []uint64 {
	out := make([]uint64, 16*m.Frames())
	for addr := range out {
		out[addr], _ = m.Read(addr)
	}
	return out
}

// unchanged holds the words of a memory against those that it must have.
func unchanged(t *testing.T, m *memory.Memory, want []uint64, after string) {
	t.Helper()
	if got := words(m); !slices.Equal(got, want) {
		t.Fatalf("after %s the words are %v, want %v", after, got, want)
	}
}

// entryOf is what the word of an entry tells; false if it is not that of one.
func entryOf(w uint64) (api.Entry, bool) {
	switch {
	case w == 0:
		return api.Entry{}, true
	case w >= 65536:
		return api.Entry{}, false
	}
	frame := int(w / 256)
	switch w % 256 {
	case 1:
		return page(frame), true
	case 3:
		return writable(frame), true
	case 5:
		return table(frame), true
	}
	return api.Entry{}, false
}

// getOf is what Get must answer, of a memory with these words.
func getOf(all []uint64, frame, place int) (api.Entry, api.Errno) {
	if frame < 0 || frame >= len(all)/16 || place < 0 || place > 15 {
		return api.Entry{}, api.ErrArg
	}
	e, is := entryOf(all[16*frame+place])
	if !is {
		return api.Entry{}, api.ErrForm
	}
	return e, api.OK
}

// walkOf is what Walk must answer, of a memory with these words: the levels
// are written out one by one.
func walkOf(all []uint64, root, page int) (api.Entry, []walk.Step, api.Errno) {
	if root < 0 || root >= len(all)/16 || page < 0 || page > 4095 {
		return api.Entry{}, nil, api.ErrArg
	}
	steps := []walk.Step{{Frame: root, Place: page / 256}}
	first, err := getOf(all, root, page/256)
	if err != api.OK {
		return api.Entry{}, steps, api.ErrForm
	}
	if !first.Valid {
		return api.Entry{}, steps, api.ErrFault
	}
	if !first.Table {
		return api.Entry{}, steps, api.ErrForm
	}
	steps = append(steps, walk.Step{Frame: first.Frame, Place: page % 256 / 16})
	second, err := getOf(all, first.Frame, page%256/16)
	if err != api.OK {
		return api.Entry{}, steps, api.ErrForm
	}
	if !second.Valid {
		return api.Entry{}, steps, api.ErrFault
	}
	if !second.Table {
		return api.Entry{}, steps, api.ErrForm
	}
	steps = append(steps, walk.Step{Frame: second.Frame, Place: page % 16})
	third, err := getOf(all, second.Frame, page%16)
	if err != api.OK {
		return api.Entry{}, steps, api.ErrForm
	}
	if !third.Valid {
		return api.Entry{}, steps, api.ErrFault
	}
	if third.Table {
		return api.Entry{}, steps, api.ErrForm
	}
	return third, steps, api.OK
}

// sameGet holds what Get answers against what it must.
func sameGet(t *testing.T, m *memory.Memory, frame, place int, want api.Entry, wantErr api.Errno) {
	t.Helper()
	if e, err := walk.Get(m, frame, place); e != want || err != wantErr {
		t.Errorf("Get(%d, %d) = %+v, %d, want %+v, %d", frame, place, e, err, want, wantErr)
	}
}

// sameWalk holds what Walk answers against what it must.
func sameWalk(t *testing.T, m *memory.Memory, root, page int, want api.Entry, wantSteps []walk.Step, wantErr api.Errno) {
	t.Helper()
	e, steps, err := walk.Walk(m, root, page)
	if e != want || !slices.Equal(steps, wantSteps) || err != wantErr {
		t.Errorf("Walk(%d, %#x) = %+v, %v, %d, want %+v, %v, %d", root, page, e, steps, err, want, wantSteps, wantErr)
	}
}

// P7.1: Get and Put of the frames and places around the bounds.
func TestBoundsOfGetAndPut(t *testing.T) {
	for _, frames := range []int{1, 2, 3, 256} {
		m := made(t, frames)
		for _, frame := range []int{-1, 0, frames - 1, frames} {
			for _, place := range []int{-1, 0, 15, 16} {
				want, found := api.ErrArg, api.Entry{}
				if (frame == 0 || frame == frames-1) && (place == 0 || place == 15) {
					want, found = api.OK, writable(7)
				}
				before := words(m)
				if err := walk.Put(m, frame, place, writable(7)); err != want {
					t.Errorf("of %d frames: Put(%d, %d) = %d, want %d", frames, frame, place, err, want)
				}
				if want == api.OK {
					before[16*frame+place] = 7*256 + 3
				}
				unchanged(t, m, before, "Put")
				sameGet(t, m, frame, place, found, want)
			}
		}
	}
}

// P7.1 and P0: Get and Put of all pairs of edges, of which those that there
// are not change no word.
func TestEdgesOfGetAndPut(t *testing.T) {
	for _, frames := range []int{1, 3, 256} {
		m := made(t, frames)
		all := words(m)
		for _, frame := range edges {
			for _, place := range edges {
				want := api.ErrArg
				if frame >= 0 && frame < frames && place >= 0 && place < 16 {
					want = api.OK
					all[16*frame+place] = 9*256 + 5
				}
				if err := walk.Put(m, frame, place, table(9)); err != want {
					t.Errorf("of %d frames: Put(%d, %d) = %d, want %d", frames, frame, place, err, want)
				}
				e, err := getOf(all, frame, place)
				sameGet(t, m, frame, place, e, err)
			}
		}
		unchanged(t, m, all, "Put of all edges")
	}
}

// P7.1: Get of each word of 17 bits, and of greater ones.
func TestGetOfWords(t *testing.T) {
	m := made(t, 2)
	same := func(w uint64) {
		write(t, m, 1, 6, w)
		want, err := getOf(words(m), 1, 6)
		sameGet(t, m, 1, 6, want, err)
	}
	for w := range uint64(1 << 17) {
		same(w)
	}
	for bit := range 64 {
		for _, w := range []uint64{0, 1, 3, 5, 65285} {
			same(w ^ 1<<bit)
		}
	}
	for _, w := range badWords {
		write(t, m, 1, 6, w)
		sameGet(t, m, 1, 6, api.Entry{}, api.ErrForm)
	}
}

// P7.1: Put stores the word of each well-formed entry, over any word that was
// there, and no other word changes.
func TestPutStoresTheWord(t *testing.T) {
	entries, stored := wellFormed()
	for n, e := range entries {
		m := made(t, 3)
		for addr := range 48 {
			m.Write(addr, math.MaxUint64-uint64(addr))
		}
		want := words(m)
		frame, place := n%3, n%16
		want[16*frame+place] = stored[n]
		put(t, m, frame, place, e)
		unchanged(t, m, want, "Put")
	}
}

// P7.1: Put of an entry that is not well-formed changes no word, and neither
// does Put of one whose Frame is any edge that no frame has.
func TestPutOfBadEntries(t *testing.T) {
	m := made(t, 2)
	for addr := range 32 {
		m.Write(addr, uint64(addr)*256+1)
	}
	want := words(m)
	bad := slices.Clone(badEntries)
	for _, frame := range edges {
		if frame != 0 {
			bad = append(bad, api.Entry{Frame: frame})
		}
		if frame < 0 || frame > 255 {
			bad = append(bad, page(frame), writable(frame), table(frame))
		}
	}
	for _, e := range bad {
		for frame := range 2 {
			for place := range 16 {
				if err := walk.Put(m, frame, place, e); err != api.ErrArg {
					t.Errorf("Put(%d, %d, %+v) = %d, want ErrArg", frame, place, e, err)
				}
			}
		}
		for _, place := range []int{-1, 16} {
			if err := walk.Put(m, 0, place, e); err != api.ErrArg {
				t.Errorf("Put(0, %d, %+v) = %d, want ErrArg", place, e, err)
			}
		}
		unchanged(t, m, want, "Put of a bad entry")
	}
}

// P7.1: a Frame that the memory does not have is no error of Put or Get.
func TestEntryOfAFrameBeyondTheMemory(t *testing.T) {
	m := made(t, 1)
	for place, e := range []api.Entry{page(1), writable(255), table(1), table(255)} {
		put(t, m, 0, place, e)
		sameGet(t, m, 0, place, e, api.OK)
	}
}

// sameBlank holds what Blank answers against what it must.
func sameBlank(t *testing.T, m *memory.Memory, frame int, want bool) {
	t.Helper()
	if got := walk.Blank(m, frame); got != want {
		t.Errorf("Blank(%d) = %v, want %v", frame, got, want)
	}
}

// P7.1: Blank of frames that there are, and of those that there are not.
func TestBlankOfFrames(t *testing.T) {
	for _, frames := range []int{1, 2, 3, 256} {
		m := made(t, frames)
		for _, frame := range edges {
			sameBlank(t, m, frame, frame >= 0 && frame < frames)
		}
		sameBlank(t, m, frames-1, true)
		sameBlank(t, m, frames, false)
	}
}

// P7.1: Blank of a frame with one entry, or one word that is not that of an
// entry, at each of its indices; the frames beside it stay blank.
func TestBlankOfOneWord(t *testing.T) {
	m := made(t, 3)
	bad := append([]uint64{1, 3, 5, 257, 65281, 65283, 65285}, badWords...)
	for place := range 16 {
		for _, w := range bad {
			write(t, m, 1, place, w)
			sameBlank(t, m, 1, false)
			sameBlank(t, m, 0, true)
			sameBlank(t, m, 2, true)
		}
		put(t, m, 1, place, api.Entry{})
		sameBlank(t, m, 1, true)
	}
	for place := range 16 {
		put(t, m, 1, place, page(place))
	}
	sameBlank(t, m, 1, false)
	for place := range 16 {
		sameBlank(t, m, 1, false)
		put(t, m, 1, place, api.Entry{})
	}
	sameBlank(t, m, 1, true)
}

// P7.2: the document's examples: a blank root is ErrFault with one Step, and
// page 0xABC has the indices 10, 11 and 12.
func TestExamples(t *testing.T) {
	m := made(t, 4)
	sameWalk(t, m, 0, 0, api.Entry{}, []walk.Step{{Frame: 0, Place: 0}}, api.ErrFault)
	sameWalk(t, m, 3, 0xABC, api.Entry{}, []walk.Step{{Frame: 3, Place: 10}}, api.ErrFault)
	put(t, m, 0, 10, table(2))
	put(t, m, 2, 11, table(1))
	put(t, m, 1, 12, writable(3))
	sameWalk(t, m, 0, 0xABC, writable(3), []walk.Step{{Frame: 0, Place: 10}, {Frame: 2, Place: 11}, {Frame: 1, Place: 12}}, api.OK)
}

// P7.2: the roots and pages around the bounds, and all pairs of edges.
func TestBoundsOfWalk(t *testing.T) {
	for _, frames := range []int{1, 2, 3, 256} {
		m := made(t, frames)
		for _, root := range append([]int{frames - 1, frames}, edges...) {
			for _, page := range edges {
				if root < 0 || root >= frames || page < 0 || page > 4095 {
					sameWalk(t, m, root, page, api.Entry{}, nil, api.ErrArg)
				} else {
					sameWalk(t, m, root, page, api.Entry{}, []walk.Step{{Frame: root, Place: page / 256}}, api.ErrFault)
				}
			}
		}
	}
}

// P7.2: ErrArg is returned for a wrong root or page, whatever the tables hold.
func TestWrongRootOrPageWithTables(t *testing.T) {
	m := made(t, 1)
	for place := range 16 {
		put(t, m, 0, place, table(0))
	}
	for _, c := range []struct{ root, page int }{{-1, 0}, {1, 0}, {-1, -1}, {1, 4096}, {0, -1}, {0, 4096}, {math.MinInt, 0}, {math.MaxInt, 0}, {0, math.MinInt}, {0, math.MaxInt}, {math.MinInt, math.MaxInt}} {
		sameWalk(t, m, c.root, c.page, api.Entry{}, nil, api.ErrArg)
	}
}

// P7.2: each page by itself: three tables lead to it, and its Steps are these
// tables at its indices; the page of the next number is not there.
func TestWalkToEachPage(t *testing.T) {
	m := made(t, 9)
	for n := range 4096 {
		places := [3]int{n / 256, n / 16 % 16, n % 16}
		put(t, m, 8, places[0], table(5))
		put(t, m, 5, places[1], table(2))
		put(t, m, 2, places[2], page(n%256))
		steps := []walk.Step{{Frame: 8, Place: places[0]}, {Frame: 5, Place: places[1]}, {Frame: 2, Place: places[2]}}
		sameWalk(t, m, 8, n, page(n%256), steps, api.OK)
		if _, _, err := walk.Walk(m, 8, (n+1)%4096); err != api.ErrFault {
			t.Errorf("only page %#x is there: Walk to the next one is %d, want ErrFault", n, err)
		}
		put(t, m, 8, places[0], api.Entry{})
		put(t, m, 5, places[1], api.Entry{})
		put(t, m, 2, places[2], api.Entry{})
	}
}

// path lays the tables 1, 2 and 0 of a memory of 4 frames, in which page 0x9F4
// is writable at frame 3, and returns the Steps to it.
func path(t *testing.T) (*memory.Memory, []walk.Step) {
	t.Helper()
	m := made(t, 4)
	put(t, m, 1, 9, table(2))
	put(t, m, 2, 15, table(0))
	put(t, m, 0, 4, writable(3))
	return m, []walk.Step{{Frame: 1, Place: 9}, {Frame: 2, Place: 15}, {Frame: 0, Place: 4}}
}

// P7.2: an entry that is not valid, at each level.
func TestWalkToAnEntryThatIsNotValid(t *testing.T) {
	for level := range 3 {
		m, steps := path(t)
		sameWalk(t, m, 1, 0x9F4, writable(3), steps, api.OK)
		put(t, m, steps[level].Frame, steps[level].Place, api.Entry{})
		sameWalk(t, m, 1, 0x9F4, api.Entry{}, steps[:level+1], api.ErrFault)
	}
}

// P7.2: a word that is not that of an entry, at each level.
func TestWalkToABadWord(t *testing.T) {
	for level := range 3 {
		m, steps := path(t)
		for _, w := range badWords {
			write(t, m, steps[level].Frame, steps[level].Place, w)
			sameWalk(t, m, 1, 0x9F4, api.Entry{}, steps[:level+1], api.ErrForm)
		}
	}
}

// P7.2: an entry that is not Table at the levels 0 and 1, and one that is at
// level 2, whatever its Frame.
func TestWalkToAnEntryOfAnotherLevel(t *testing.T) {
	for frame := range 256 {
		for level := range 2 {
			m, steps := path(t)
			for _, e := range []api.Entry{page(frame), writable(frame)} {
				put(t, m, steps[level].Frame, steps[level].Place, e)
				sameWalk(t, m, 1, 0x9F4, api.Entry{}, steps[:level+1], api.ErrForm)
			}
		}
		m, steps := path(t)
		put(t, m, 0, 4, table(frame))
		sameWalk(t, m, 1, 0x9F4, api.Entry{}, steps, api.ErrForm)
	}
}

// P7.2: a table whose frame does not exist is ErrForm with the Step to it; a
// page whose frame does not exist is no error.
func TestWalkToAFrameBeyondTheMemory(t *testing.T) {
	for frame := 4; frame < 256; frame++ {
		for level := range 2 {
			m, steps := path(t)
			put(t, m, steps[level].Frame, steps[level].Place, table(frame))
			want := slices.Clone(steps[:level+2])
			want[level+1].Frame = frame
			sameWalk(t, m, 1, 0x9F4, api.Entry{}, want, api.ErrForm)
		}
		m, steps := path(t)
		put(t, m, 0, 4, page(frame))
		sameWalk(t, m, 1, 0x9F4, page(frame), steps, api.OK)
	}
}

// P7.2: all well-formed entries at each of the levels.
func TestWalkWithAllEntries(t *testing.T) {
	entries, _ := wellFormed()
	for level := range 3 {
		m, steps := path(t)
		for _, e := range entries {
			put(t, m, steps[level].Frame, steps[level].Place, e)
			want, wantSteps, err := walkOf(words(m), 1, 0x9F4)
			sameWalk(t, m, 1, 0x9F4, want, wantSteps, err)
		}
	}
}

// P7.2: the frames from the first to the last of the greatest memory, as
// tables and as the page.
func TestWalkInTheGreatestMemory(t *testing.T) {
	for frame := range 256 {
		m := made(t, 256)
		first, second := (frame+85)%256, (frame+170)%256
		put(t, m, frame, 15, table(first))
		put(t, m, first, 15, table(second))
		put(t, m, second, 15, page(255-frame))
		steps := []walk.Step{{Frame: frame, Place: 15}, {Frame: first, Place: 15}, {Frame: second, Place: 15}}
		sameWalk(t, m, frame, 4095, page(255-frame), steps, api.OK)
	}
}

// P7.2 and P0: a table that leads to itself is the table of three levels: a
// walk ends there with ErrForm, as the last entry is Table, or with that of
// another index.
func TestTableThatLeadsToItself(t *testing.T) {
	m := made(t, 1)
	put(t, m, 0, 3, table(0))
	put(t, m, 0, 5, writable(77))
	three := walk.Step{Frame: 0, Place: 3}
	sameWalk(t, m, 0, 0x333, api.Entry{}, []walk.Step{three, three, three}, api.ErrForm)
	sameWalk(t, m, 0, 0x335, writable(77), []walk.Step{three, three, {Frame: 0, Place: 5}}, api.OK)
	sameWalk(t, m, 0, 0x334, api.Entry{}, []walk.Step{three, three, {Frame: 0, Place: 4}}, api.ErrFault)
	sameWalk(t, m, 0, 0x353, api.Entry{}, []walk.Step{three, {Frame: 0, Place: 5}}, api.ErrForm)
	sameWalk(t, m, 0, 0x343, api.Entry{}, []walk.Step{three, {Frame: 0, Place: 4}}, api.ErrFault)
}

// P7.2: two tables that lead to each other.
func TestTablesThatLeadToEachOther(t *testing.T) {
	m := made(t, 2)
	put(t, m, 0, 0, table(1))
	put(t, m, 1, 0, table(0))
	steps := []walk.Step{{Frame: 0, Place: 0}, {Frame: 1, Place: 0}, {Frame: 0, Place: 0}}
	sameWalk(t, m, 0, 0, api.Entry{}, steps, api.ErrForm)
	put(t, m, 0, 1, page(1))
	steps[2].Place = 1
	sameWalk(t, m, 0, 1, page(1), steps, api.OK)
}

// mixture is a memory whose words are chosen by a rule: most lead on, to a
// frame that exists or not, and some are zero or not those of an entry. seed is
// the rule's state, from one word to the next.
func mixture(t *testing.T, frames int, seed uint64) *memory.Memory {
	t.Helper()
	m := made(t, frames)
	for addr := range 16 * frames {
		seed = seed*6364136223846793005 + 1442695040888963407
		pick := seed >> 33
		frame := pick / 16 % uint64(frames+1)
		w := 256*frame + 5
		switch pick % 16 {
		case 0:
			w = 0
		case 1:
			w = badWords[pick/16%uint64(len(badWords))]
		case 2, 3:
			w = 256*frame + 1
		case 4, 5:
			w = 256*frame + 3
		}
		m.Write(addr, w)
	}
	return m
}

// P7.2: each page from each root of mixed tables, against the levels written
// out; a walk changes no word.
func TestWalkInMixtures(t *testing.T) {
	seen := map[api.Errno]int{}
	for seed := range uint64(12) {
		m := mixture(t, int(seed)+1, seed)
		all := words(m)
		for root := range m.Frames() {
			for n := range 4096 {
				want, steps, err := walkOf(all, root, n)
				sameWalk(t, m, root, n, want, steps, err)
				seen[err]++
			}
		}
		unchanged(t, m, all, "walks")
	}
	if seen[api.OK] == 0 || seen[api.ErrFault] == 0 || seen[api.ErrForm] == 0 {
		t.Errorf("the mixtures have not all results: %v", seen)
	}
}

// P7.3: no result of a walk changes when each word at another index of any
// frame does.
func TestWalkDependsOnTheIndicesOfThePage(t *testing.T) {
	others := []uint64{0, 1, 5, 261, 517, 773, 65283, 65285, 2, math.MaxUint64}
	for seed := range uint64(8) {
		m := mixture(t, 4, 100+seed)
		all := words(m)
		for n := int(seed); n < 4096; n += 97 {
			want, steps, err := walkOf(all, 1, n)
			for addr := range all {
				if slices.Contains(steps, walk.Step{Frame: addr / 16, Place: addr % 16}) {
					continue
				}
				for _, w := range others {
					m.Write(addr, w)
					sameWalk(t, m, 1, n, want, steps, err)
				}
				m.Write(addr, all[addr])
			}
		}
	}
}

// P7.3: the same, when all words at other indices change at once; and the
// result does change with the entry at an index of the page.
func TestWalkWithAllOtherWordsChanged(t *testing.T) {
	for _, w := range []uint64{0, 1, 5, 773, math.MaxUint64} {
		m, steps := path(t)
		for addr := range 64 {
			if !slices.Contains(steps, walk.Step{Frame: addr / 16, Place: addr % 16}) {
				m.Write(addr, w)
			}
		}
		sameWalk(t, m, 1, 0x9F4, writable(3), steps, api.OK)
		put(t, m, 0, 4, page(2))
		sameWalk(t, m, 1, 0x9F4, page(2), steps, api.OK)
		put(t, m, 2, 15, api.Entry{})
		sameWalk(t, m, 1, 0x9F4, api.Entry{}, steps[:2], api.ErrFault)
	}
}

// P7.3: Get returns each entry that Put has stored, at each index, and what
// was stored at the others before.
func TestGetReturnsWhatPutHasStored(t *testing.T) {
	const frames = 3
	m := made(t, frames)
	var stored [frames][16]api.Entry
	entries, _ := wellFormed()
	for n, e := range entries {
		frame, place := n*7%frames, n*5%16
		put(t, m, frame, place, e)
		stored[frame][place] = e
		for frame := range stored {
			for place, e := range stored[frame] {
				sameGet(t, m, frame, place, e, api.OK)
			}
		}
	}
	for _, e := range badEntries {
		walk.Put(m, 1, 1, e)
	}
	for frame := range stored {
		for place, e := range stored[frame] {
			put(t, m, frame, place, e)
			sameGet(t, m, frame, place, e, api.OK)
			put(t, m, frame, place, e)
			sameGet(t, m, frame, place, e, api.OK)
		}
	}
}

// R1: Get and Blank, right and wrong, and a wrong Walk change no word.
func TestCallsThatChangeNothing(t *testing.T) {
	m := mixture(t, 5, 42)
	all := words(m)
	for _, n := range edges {
		for _, k := range edges {
			walk.Get(m, n, k)
			walk.Walk(m, n, k)
		}
		walk.Blank(m, n)
	}
	unchanged(t, m, all, "Get, Blank and Walk")
}

// R3: the Steps belong to the caller: what is done to them changes no other
// answer.
func TestStepsBelongToTheCaller(t *testing.T) {
	m, want := path(t)
	_, first, _ := walk.Walk(m, 1, 0x9F4)
	_, second, _ := walk.Walk(m, 1, 0x9F4)
	for n := range first {
		first[n] = walk.Step{Frame: -1, Place: -1}
	}
	first = append(first[:1], walk.Step{Frame: -2, Place: -2})
	if !slices.Equal(second, want) {
		t.Errorf("the Steps are %v after those of another walk were changed to %v, want %v", second, first, want)
	}
	sameWalk(t, m, 1, 0x9F4, writable(3), want, api.OK)
}

// R4: two memories do not know of each other.
func TestTwoMemories(t *testing.T) {
	m, steps := path(t)
	other := made(t, 4)
	sameWalk(t, m, 1, 0x9F4, writable(3), steps, api.OK)
	sameWalk(t, other, 1, 0x9F4, api.Entry{}, steps[:1], api.ErrFault)
	sameBlank(t, other, 2, true)
	put(t, other, 2, 15, page(1))
	sameGet(t, m, 2, 15, table(0), api.OK)
	sameWalk(t, m, 1, 0x9F4, writable(3), steps, api.OK)
}

// P0: a memory that is nil has no frames.
func TestNoMemory(t *testing.T) {
	for _, n := range edges {
		sameGet(t, nil, n, 0, api.Entry{}, api.ErrArg)
		sameGet(t, nil, 0, n, api.Entry{}, api.ErrArg)
		if err := walk.Put(nil, n, 0, page(1)); err != api.ErrArg {
			t.Errorf("Put(nil, %d, 0) = %d, want ErrArg", n, err)
		}
		sameBlank(t, nil, n, false)
		sameWalk(t, nil, n, 0, api.Entry{}, nil, api.ErrArg)
		sameWalk(t, nil, 0, n, api.Entry{}, nil, api.ErrArg)
	}
}
