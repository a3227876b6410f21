package entry_test

import (
	"math"
	"testing"

	"trunnion/api"
	"trunnion/entry"
)

// edges are numbers around all bounds of a frame, a page, a level, an index
// and an address, and the ends of int. Cut to 32, 16 or 8 bits, many of them
// are right ones.
var edges = []int{math.MinInt, math.MinInt + 1, math.MinInt + 15, math.MinInt + 255, math.MinInt + 4095, math.MinInt32, -65536, -65535, -4096, -4095, -257, -256, -255, -17, -16, -15, -3, -2, -1, 0, 1, 2, 3, 4, 14, 15, 16, 17, 35, 127, 128, 254, 255, 256, 257, 511, 512, 4094, 4095, 4096, 4097, 65534, 65535, 65536, 65537, 1<<16 + 4095, math.MaxInt32, 1 << 32, 1<<32 + 1, 1<<32 + 255, 1<<32 + 4095, 1<<56 + 3, 1<<60 + 3, 1 << 62, math.MaxInt - 255, math.MaxInt - 15, math.MaxInt - 1, math.MaxInt}

// flags calls f with the entries of a frame: each of the three flags set and
// not set.
func flags(frame int, f func(e api.Entry)) {
	for n := range 8 {
		f(api.Entry{Valid: n%2 == 1, Write: n/2%2 == 1, Table: n/4 == 1, Frame: frame})
	}
}

// wordOf is what Word must answer.
func wordOf(e api.Entry) (uint64, api.Errno) {
	switch {
	case !e.Valid && (e.Write || e.Table || e.Frame != 0):
		return 0, api.ErrArg
	case !e.Valid:
		return 0, api.OK
	case e.Frame < 0 || e.Frame > 255 || e.Write && e.Table:
		return 0, api.ErrArg
	}
	w := 1
	if e.Write {
		w += 2
	}
	if e.Table {
		w += 4
	}
	return uint64(w + 256*e.Frame), api.OK
}

// wellFormed returns each well-formed entry by its word.
func wellFormed() map[uint64]api.Entry {
	all := map[uint64]api.Entry{0: {}}
	for frame := range 256 {
		w := uint64(256*frame + 1)
		all[w] = api.Entry{Valid: true, Frame: frame}
		all[w+2] = api.Entry{Valid: true, Write: true, Frame: frame}
		all[w+4] = api.Entry{Valid: true, Table: true, Frame: frame}
	}
	return all
}

// sameWord asks Word for e, and holds what it answers against what it must.
func sameWord(t *testing.T, e api.Entry, want uint64, wantErr api.Errno) {
	t.Helper()
	if w, err := entry.Word(e); w != want || err != wantErr {
		t.Errorf("Word(%+v) = %d, %d, want %d, %d", e, w, err, want, wantErr)
	}
}

// sameEntry asks Of for w, and holds what it answers against what it must.
func sameEntry(t *testing.T, w uint64, want api.Entry, wantErr api.Errno) {
	t.Helper()
	if e, err := entry.Of(w); e != want || err != wantErr {
		t.Errorf("Of(%d) = %+v, %d, want %+v, %d", w, e, err, want, wantErr)
	}
}

// P6.1: the document's example, and the named edges.
func TestWord(t *testing.T) {
	for _, c := range []struct {
		e    api.Entry
		want uint64
		err  api.Errno
	}{
		{api.Entry{Valid: true, Write: true, Frame: 3}, 771, api.OK},
		{api.Entry{}, 0, api.OK},
		{api.Entry{Write: true}, 0, api.ErrArg},
		{api.Entry{Table: true}, 0, api.ErrArg},
		{api.Entry{Frame: 1}, 0, api.ErrArg},
		{api.Entry{Frame: -1}, 0, api.ErrArg},
		{api.Entry{Frame: 256}, 0, api.ErrArg},
		{api.Entry{Valid: true, Frame: -1}, 0, api.ErrArg},
		{api.Entry{Valid: true}, 1, api.OK},
		{api.Entry{Valid: true, Frame: 255}, 65281, api.OK},
		{api.Entry{Valid: true, Frame: 256}, 0, api.ErrArg},
		{api.Entry{Valid: true, Write: true}, 3, api.OK},
		{api.Entry{Valid: true, Write: true, Frame: 255}, 65283, api.OK},
		{api.Entry{Valid: true, Table: true}, 5, api.OK},
		{api.Entry{Valid: true, Table: true, Frame: 255}, 65285, api.OK},
		{api.Entry{Valid: true, Write: true, Table: true}, 0, api.ErrArg},
		{api.Entry{Valid: true, Write: true, Table: true, Frame: 255}, 0, api.ErrArg},
		{api.Entry{Valid: true, Frame: math.MinInt}, 0, api.ErrArg},
		{api.Entry{Valid: true, Frame: math.MaxInt}, 0, api.ErrArg},
		{api.Entry{Frame: math.MinInt}, 0, api.ErrArg},
		{api.Entry{Frame: math.MaxInt}, 0, api.ErrArg},
	} {
		sameWord(t, c.e, c.want, c.err)
	}
}

// P6.1: each frame from -300 to 600, and each of the edges, with all flags.
func TestWordOfAllEntries(t *testing.T) {
	same := func(e api.Entry) {
		want, err := wordOf(e)
		sameWord(t, e, want, err)
	}
	for frame := -300; frame <= 600; frame++ {
		flags(frame, same)
	}
	for _, frame := range edges {
		flags(frame, same)
	}
}

// P6.1: the document's example, and the named edges.
func TestOf(t *testing.T) {
	for _, c := range []struct {
		w    uint64
		want api.Entry
		err  api.Errno
	}{
		{771, api.Entry{Valid: true, Write: true, Frame: 3}, api.OK},
		{0, api.Entry{}, api.OK},
		{1, api.Entry{Valid: true}, api.OK},
		{2, api.Entry{}, api.ErrArg},
		{3, api.Entry{Valid: true, Write: true}, api.OK},
		{4, api.Entry{}, api.ErrArg},
		{5, api.Entry{Valid: true, Table: true}, api.OK},
		{6, api.Entry{}, api.ErrArg},
		{7, api.Entry{}, api.ErrArg},
		{8, api.Entry{}, api.ErrArg},
		{9, api.Entry{}, api.ErrArg},
		{255, api.Entry{}, api.ErrArg},
		{256, api.Entry{}, api.ErrArg},
		{257, api.Entry{Valid: true, Frame: 1}, api.OK},
		{65280, api.Entry{}, api.ErrArg},
		{65281, api.Entry{Valid: true, Frame: 255}, api.OK},
		{65282, api.Entry{}, api.ErrArg},
		{65283, api.Entry{Valid: true, Write: true, Frame: 255}, api.OK},
		{65284, api.Entry{}, api.ErrArg},
		{65285, api.Entry{Valid: true, Table: true, Frame: 255}, api.OK},
		{65286, api.Entry{}, api.ErrArg},
		{65287, api.Entry{}, api.ErrArg},
		{65535, api.Entry{}, api.ErrArg},
		{65536, api.Entry{}, api.ErrArg},
		{65537, api.Entry{}, api.ErrArg},
		{1 << 63, api.Entry{}, api.ErrArg},
		{1<<63 | 1, api.Entry{}, api.ErrArg},
		{math.MaxUint64 - 1, api.Entry{}, api.ErrArg},
		{math.MaxUint64, api.Entry{}, api.ErrArg},
	} {
		sameEntry(t, c.w, c.want, c.err)
	}
}

// P6.1: all words of 18 bits: Of answers ErrArg, and a zero entry, for each
// that is not the word of one.
func TestOfAllWords(t *testing.T) {
	all := wellFormed()
	for w := range uint64(1 << 18) {
		if e, is := all[w]; is {
			sameEntry(t, w, e, api.OK)
		} else {
			sameEntry(t, w, api.Entry{}, api.ErrArg)
		}
	}
}

// P6.1: the word of each entry with one bit turned over, which may make it
// that of another one, but not of itself.
func TestOfWordsWithAnotherBit(t *testing.T) {
	all := wellFormed()
	for w := range all {
		for bit := range 64 {
			other := w ^ 1<<bit
			if e, is := all[other]; is {
				sameEntry(t, other, e, api.OK)
			} else {
				sameEntry(t, other, api.Entry{}, api.ErrArg)
			}
		}
	}
}

// indexOf is what Index must answer.
func indexOf(page, level int) (int, api.Errno) {
	if page < 0 || page > 4095 {
		return 0, api.ErrArg
	}
	switch level {
	case 0:
		return page / 256, api.OK
	case 1:
		return page / 16 % 16, api.OK
	case 2:
		return page % 16, api.OK
	}
	return 0, api.ErrArg
}

// sameIndex holds what Index answers against what it must.
func sameIndex(t *testing.T, page, level int) {
	t.Helper()
	want, wantErr := indexOf(page, level)
	if n, err := entry.Index(page, level); n != want || err != wantErr {
		t.Errorf("Index(%d, %d) = %d, %d, want %d, %d", page, level, n, err, want, wantErr)
	}
}

// P6.2: the document's examples, and the named edges.
func TestIndex(t *testing.T) {
	for _, c := range []struct {
		page, level, want int
		err               api.Errno
	}{
		{0xABC, 0, 10, api.OK},
		{0xABC, 1, 11, api.OK},
		{0xABC, 2, 12, api.OK},
		{-1, 0, 0, api.ErrArg},
		{-1, 1, 0, api.ErrArg},
		{-1, 2, 0, api.ErrArg},
		{0, 0, 0, api.OK},
		{0, 1, 0, api.OK},
		{0, 2, 0, api.OK},
		{4095, 0, 15, api.OK},
		{4095, 1, 15, api.OK},
		{4095, 2, 15, api.OK},
		{4096, 0, 0, api.ErrArg},
		{4096, 1, 0, api.ErrArg},
		{4096, 2, 0, api.ErrArg},
		{4095, -1, 0, api.ErrArg},
		{4095, 3, 0, api.ErrArg},
		{math.MinInt, 0, 0, api.ErrArg},
		{math.MaxInt, 2, 0, api.ErrArg},
		{4095, math.MinInt, 0, api.ErrArg},
		{4095, math.MaxInt, 0, api.ErrArg},
	} {
		if n, err := entry.Index(c.page, c.level); n != c.want || err != c.err {
			t.Errorf("Index(%d, %d) = %d, %d, want %d, %d", c.page, c.level, n, err, c.want, c.err)
		}
	}
}

// P6.2: all pages, and some beside them, at all levels, and all pairs of
// edges.
func TestIndexOfAllPages(t *testing.T) {
	for page := -300; page < 9000; page++ {
		for level := -4; level <= 8; level++ {
			sameIndex(t, page, level)
		}
	}
	for _, page := range edges {
		for _, level := range edges {
			sameIndex(t, page, level)
		}
	}
}

// samePage holds what Page answers against what it must.
func samePage(t *testing.T, places [3]int) {
	t.Helper()
	want, wantErr := 0, api.OK
	for _, place := range places {
		if place < 0 || place > 15 {
			wantErr = api.ErrArg
		}
	}
	if wantErr == api.OK {
		want = 256*places[0] + 16*places[1] + places[2]
	}
	if page, err := entry.Page(places); page != want || err != wantErr {
		t.Errorf("Page(%v) = %d, %d, want %d, %d", places, page, err, want, wantErr)
	}
}

// P6.2: an example, and the named edges, each index by itself.
func TestPage(t *testing.T) {
	for _, c := range []struct {
		places [3]int
		want   int
		err    api.Errno
	}{
		{[3]int{10, 11, 12}, 0xABC, api.OK},
		{[3]int{0, 0, 0}, 0, api.OK},
		{[3]int{15, 0, 0}, 3840, api.OK},
		{[3]int{0, 15, 0}, 240, api.OK},
		{[3]int{0, 0, 15}, 15, api.OK},
		{[3]int{15, 15, 15}, 4095, api.OK},
		{[3]int{-1, 0, 0}, 0, api.ErrArg},
		{[3]int{0, -1, 0}, 0, api.ErrArg},
		{[3]int{0, 0, -1}, 0, api.ErrArg},
		{[3]int{16, 1, 1}, 0, api.ErrArg},
		{[3]int{1, 16, 1}, 0, api.ErrArg},
		{[3]int{1, 1, 16}, 0, api.ErrArg},
		{[3]int{math.MinInt, 1, 1}, 0, api.ErrArg},
		{[3]int{1, math.MinInt, 1}, 0, api.ErrArg},
		{[3]int{1, 1, math.MinInt}, 0, api.ErrArg},
		{[3]int{math.MaxInt, 1, 1}, 0, api.ErrArg},
		{[3]int{1, math.MaxInt, 1}, 0, api.ErrArg},
		{[3]int{1, 1, math.MaxInt}, 0, api.ErrArg},
	} {
		if page, err := entry.Page(c.places); page != c.want || err != c.err {
			t.Errorf("Page(%v) = %d, %d, want %d, %d", c.places, page, err, c.want, c.err)
		}
	}
}

// P6.2: all triples of indices from -3 to 18, and of edges.
func TestPageOfAllPlaces(t *testing.T) {
	near := make([]int, 22)
	for n := range near {
		near[n] = n - 3
	}
	for _, numbers := range [][]int{near, edges} {
		for _, first := range numbers {
			for _, second := range numbers {
				for _, third := range numbers {
					samePage(t, [3]int{first, second, third})
				}
			}
		}
	}
}

// sameSplit holds what Split answers against what it must.
func sameSplit(t *testing.T, addr int) {
	t.Helper()
	wantPage, wantOffset, wantErr := 0, 0, api.ErrArg
	if addr >= 0 && addr < 65536 {
		wantPage, wantOffset, wantErr = addr/16, addr%16, api.OK
	}
	if page, offset, err := entry.Split(addr); page != wantPage || offset != wantOffset || err != wantErr {
		t.Errorf("Split(%d) = %d, %d, %d, want %d, %d, %d", addr, page, offset, err, wantPage, wantOffset, wantErr)
	}
}

// P6.3: the document's example, and the named edges.
func TestSplit(t *testing.T) {
	for _, c := range []struct {
		addr, page, offset int
		err                api.Errno
	}{
		{35, 2, 3, api.OK},
		{-1, 0, 0, api.ErrArg},
		{0, 0, 0, api.OK},
		{15, 0, 15, api.OK},
		{16, 1, 0, api.OK},
		{4095, 255, 15, api.OK},
		{4096, 256, 0, api.OK},
		{65535, 4095, 15, api.OK},
		{65536, 0, 0, api.ErrArg},
		{math.MinInt, 0, 0, api.ErrArg},
		{math.MaxInt, 0, 0, api.ErrArg},
	} {
		if page, offset, err := entry.Split(c.addr); page != c.page || offset != c.offset || err != c.err {
			t.Errorf("Split(%d) = %d, %d, %d, want %d, %d, %d", c.addr, page, offset, err, c.page, c.offset, c.err)
		}
	}
}

// P6.3: all addresses, and some beside them, and the edges.
func TestSplitOfAllAddresses(t *testing.T) {
	for addr := -5000; addr < 140000; addr++ {
		sameSplit(t, addr)
	}
	for _, addr := range edges {
		sameSplit(t, addr)
	}
}

// P6.4: Of takes Word back for each well-formed entry, of which no two have
// the same word.
func TestOfIsTheInverseOfWord(t *testing.T) {
	words := map[uint64]api.Entry{}
	for frame := -10; frame < 300; frame++ {
		flags(frame, func(e api.Entry) {
			w, err := entry.Word(e)
			if err != api.OK {
				return
			}
			if other, is := words[w]; is {
				t.Errorf("%+v and %+v have the word %d", other, e, w)
			}
			words[w] = e
			sameEntry(t, w, e, api.OK)
		})
	}
	if len(words) != 1+3*256 {
		t.Errorf("%d entries have a word, want %d", len(words), 1+3*256)
	}
}

// P6.4: Word takes Of back for each word that is that of an entry.
func TestWordIsTheInverseOfOf(t *testing.T) {
	many := 0
	for w := range uint64(1 << 17) {
		if e, err := entry.Of(w); err == api.OK {
			sameWord(t, e, w, api.OK)
			many++
		}
	}
	if many != 1+3*256 {
		t.Errorf("%d words are those of an entry, want %d", many, 1+3*256)
	}
}

// P6.4: Page takes the three calls of Index back for each page.
func TestPageIsTheInverseOfIndex(t *testing.T) {
	for page := range 4096 {
		var places [3]int
		for level := range places {
			n, err := entry.Index(page, level)
			if err != api.OK {
				t.Errorf("Index(%d, %d): error %d", page, level, err)
			}
			places[level] = n
		}
		if again, err := entry.Page(places); again != page || err != api.OK {
			t.Errorf("Page(%v) = %d, %d, want %d, OK", places, again, err, page)
		}
	}
}

// P6.4: Index takes Page back for each of three indices.
func TestIndexIsTheInverseOfPage(t *testing.T) {
	for n := range 4096 {
		places := [3]int{n % 16, n / 16 % 16, n / 256}
		page, err := entry.Page(places)
		if err != api.OK {
			t.Errorf("Page(%v): error %d", places, err)
		}
		for level, place := range places {
			if again, err := entry.Index(page, level); again != place || err != api.OK {
				t.Errorf("Index(%d, %d) = %d, %d, want %d, OK", page, level, again, err, place)
			}
		}
	}
}

// P0 and R4: a call's answer is not changed by the calls ahead of it, not by
// those that returned an error either.
func TestCallsKeepNothing(t *testing.T) {
	wrong := func() {
		entry.Word(api.Entry{Valid: true, Write: true, Frame: 256})
		entry.Of(65535)
		entry.Index(4096, 1)
		entry.Page([3]int{15, 15, 16})
		entry.Split(65536)
	}
	for range 3 {
		sameWord(t, api.Entry{Valid: true, Write: true, Frame: 3}, 771, api.OK)
		wrong()
		sameEntry(t, 771, api.Entry{Valid: true, Write: true, Frame: 3}, api.OK)
		wrong()
		sameIndex(t, 0xABC, 1)
		wrong()
		samePage(t, [3]int{10, 11, 12})
		wrong()
		sameSplit(t, 35)
	}
}
