package bits_test

import (
	"math"
	"math/big"
	"testing"

	"trunnion/bits"
)

const all = ^uint64(0)

// words holds all bits, none, one at either end, and mixtures that are the
// same neither when they are turned over nor when they are shifted.
var words = []uint64{0, 1, 2, 1 << 62, 1 << 63, all, all - 1, all >> 1, 0xABCD, 0x5555555555555555, 0xAAAAAAAAAAAAAAAA, 0x0123456789ABCDEF, 0xFEDCBA9876543210, 0xF00DFACE80000001}

// edges are numbers around all bounds of a field and of an order, and the
// ends of int.
var edges = []int{math.MinInt, math.MinInt + 1, math.MinInt + 63, math.MinInt + 64, math.MinInt32, -65, -64, -63, -2, -1, 0, 1, 2, 29, 30, 31, 32, 33, 62, 63, 64, 65, 66, 127, 128, 256, math.MaxInt32, math.MaxInt - 64, math.MaxInt - 63, math.MaxInt - 1, math.MaxInt}

// isField asks with numbers that don't wrap round.
func isField(from, many int) bool {
	end := new(big.Int).Add(big.NewInt(int64(from)), big.NewInt(int64(many)))
	return from >= 0 && from <= 63 && many >= 1 && many <= 64 && end.Cmp(big.NewInt(64)) <= 0
}

// bit is the bit of x with the value 2^place.
func bit(x uint64, place int) uint64 {
	for range place {
		x /= 2
	}
	return x % 2
}

// fieldOf is what Get must answer for a field, made bit by bit.
func fieldOf(x uint64, from, many int) uint64 {
	var n uint64
	for k := many - 1; k >= 0; k-- {
		n = n*2 + bit(x, from+k)
	}
	return n
}

// eachField calls f with all 2080 fields that there are.
func eachField(t *testing.T, f func(from, many int)) {
	t.Helper()
	seen := 0
	for from := 0; from <= 63; from++ {
		for many := 1; from+many <= 64; many++ {
			f(from, many)
			seen++
		}
	}
	if seen != 2080 {
		t.Fatalf("%d fields, want 2080", seen)
	}
}

// values are numbers that fit in many bits, the greatest of them too.
func values(many int) []uint64 {
	most := all
	if many < 64 {
		most = 1<<many - 1
	}
	l := []uint64{0, 1, most, most / 2, most - 1, most / 3}
	for _, x := range words {
		if x <= most {
			l = append(l, x)
		}
	}
	return l
}

// P1.1: ordinary fields and the edges of a word.
func TestGet(t *testing.T) {
	for _, c := range []struct {
		x          uint64
		from, many int
		want       uint64
	}{
		{0xABCD, 4, 8, 0xBC},
		{0xABCD, 0, 4, 0xD},
		{0xABCD, 12, 4, 0xA},
		{0xABCD, 16, 48, 0},
		{0xFEDCBA9876543210, 0, 64, 0xFEDCBA9876543210},
		{all, 0, 64, all},
		{0, 0, 64, 0},
		{1 << 63, 63, 1, 1},
		{all >> 1, 63, 1, 0},
		{1, 0, 1, 1},
		{all - 1, 0, 1, 0},
		{0xFEDCBA9876543210, 1, 63, 0x7F6E5D4C3B2A1908},
		{0xFEDCBA9876543210, 0, 63, 0x7EDCBA9876543210},
		{0xFEDCBA9876543210, 32, 32, 0xFEDCBA98},
		{0xFEDCBA9876543210, 60, 4, 0xF},
	} {
		if n, is := bits.Get(c.x, c.from, c.many); n != c.want || !is {
			t.Errorf("Get(%#x, %d, %d) = %#x, %v, want %#x, true", c.x, c.from, c.many, n, is, c.want)
		}
	}
}

// P1.1: all fields, bit by bit.
func TestGetAllFields(t *testing.T) {
	eachField(t, func(from, many int) {
		for _, x := range words {
			if n, is := bits.Get(x, from, many); n != fieldOf(x, from, many) || !is {
				t.Errorf("Get(%#x, %d, %d) = %#x, %v, want %#x, true", x, from, many, n, is, fieldOf(x, from, many))
			}
		}
	})
}

// P1.1: ordinary fields and the edges of a word.
func TestPut(t *testing.T) {
	for _, c := range []struct {
		x, bits    uint64
		from, many int
		want       uint64
	}{
		{0, 5, 4, 3, 80},
		{0xFFFF, 0, 4, 8, 0xF00F},
		{0xABCD, 0x12, 4, 8, 0xA12D},
		{0xABCD, 0xBC, 4, 8, 0xABCD},
		{all, 0, 0, 64, 0},
		{0, all, 0, 64, all},
		{0x0123456789ABCDEF, 0xFEDCBA9876543210, 0, 64, 0xFEDCBA9876543210},
		{0, 1, 63, 1, 1 << 63},
		{all, 0, 63, 1, all >> 1},
		{all, 1, 63, 1, all},
		{0, 1, 0, 1, 1},
		{all, 0, 0, 1, all - 1},
		{0, all >> 1, 1, 63, all - 1},
		{0, all >> 1, 0, 63, all >> 1},
		{0, 7, 4, 3, 0x70},
	} {
		if w, is := bits.Put(c.x, c.bits, c.from, c.many); w != c.want || !is {
			t.Errorf("Put(%#x, %#x, %d, %d) = %#x, %v, want %#x, true", c.x, c.bits, c.from, c.many, w, is, c.want)
		}
	}
}

// P1.1: numbers that need one bit more than there are, and more than that.
func TestPutTooGreat(t *testing.T) {
	eachField(t, func(from, many int) {
		if many == 64 {
			return // every word fits
		}
		for _, x := range words {
			for _, b := range []uint64{1 << many, 1<<many + 1, 1 << 63, all, all - 1} {
				if w, is := bits.Put(x, b, from, many); w != 0 || is {
					t.Errorf("Put(%#x, %#x, %d, %d) = %#x, %v, want 0, false", x, b, from, many, w, is)
				}
			}
		}
	})
	if w, is := bits.Put(0xFFFF, 8, 4, 3); w != 0 || is {
		t.Errorf("Put(0xffff, 8, 4, 3) = %#x, %v, want 0, false", w, is)
	}
}

// P1.1, P0, R1: all pairs of edges, the ends of int among them; where there
// is no field, the answer is 0 and false.
func TestNoField(t *testing.T) {
	for _, from := range edges {
		for _, many := range edges {
			want := isField(from, many)
			n, is := bits.Get(all, from, many)
			if is != want || !is && n != 0 {
				t.Errorf("Get(all, %d, %d) = %#x, %v, want the field: %v", from, many, n, is, want)
			}
			for _, b := range []uint64{0, 1} { // these fit in every field
				w, is := bits.Put(all, b, from, many)
				if is != want || !is && w != 0 {
					t.Errorf("Put(all, %d, %d, %d) = %#x, %v, want the field: %v", b, from, many, w, is, want)
				}
			}
			if w, is := bits.Put(all, all, from, many); !want && (w != 0 || is) {
				t.Errorf("Put(all, all, %d, %d) = %#x, %v, want 0, false", from, many, w, is)
			}
		}
	}
}

// P1.1: around every bound on from + many.
func TestFieldEnd(t *testing.T) {
	for from := -2; from <= 66; from++ {
		for many := -2; many <= 66; many++ {
			_, got := bits.Get(1, from, many)
			_, put := bits.Put(1, 0, from, many)
			if want := isField(from, many); got != want || put != want {
				t.Errorf("from %d, many %d: Get %v, Put %v, want %v", from, many, got, put, want)
			}
		}
	}
}

// P1.2: numbers less than 1, and small ones.
func TestLog(t *testing.T) {
	for _, c := range [][2]int{{math.MinInt, 0}, {math.MinInt + 1, 0}, {-256, 0}, {-5, 0}, {-1, 0}, {0, 0}, {1, 0}, {2, 1}, {3, 2}, {4, 2}, {5, 3}, {8, 3}, {9, 4}, {100, 7}, {256, 8}, {257, 9}, {math.MaxInt - 1, 63}, {math.MaxInt, 63}} {
		if k := bits.Log(c[0]); k != c[1] {
			t.Errorf("Log(%d) = %d, want %d", c[0], k, c[1])
		}
	}
}

// P1.2: every power of two that is an int, and the numbers beside it.
func TestLogPowers(t *testing.T) {
	for k := 2; k <= 62; k++ {
		p := 1 << k
		if a, b, c := bits.Log(p-1), bits.Log(p), bits.Log(p+1); a != k || b != k || c != k+1 {
			t.Errorf("Log beside 2^%d: %d, %d, %d, want %d, %d, %d", k, a, b, c, k, k, k+1)
		}
	}
}

// P1.2: the least k, by powers that don't wrap round.
func TestLogLeast(t *testing.T) {
	for n := 1; n <= 5000; n++ {
		k := bits.Log(n)
		if k < 0 || 1<<k < n || k > 0 && 1<<(k-1) >= n {
			t.Errorf("Log(%d) = %d", n, k)
		}
	}
}

// P1.2: ordinary orders, negative numbers, and orders that there are not.
func TestAlign(t *testing.T) {
	for _, c := range [][3]int{
		{13, 2, 12},
		{12, 2, 12},
		{15, 2, 12},
		{16, 2, 16},
		{3, 2, 0},
		{0, 0, 0},
		{0, 30, 0},
		{13, 0, 13},
		{13, 1, 12},
		{1<<30 - 1, 30, 0},
		{1 << 30, 30, 1 << 30},
		{1<<31 - 1, 30, 1 << 30},
		{1 << 31, 30, 1 << 31},
		{1<<31 - 1, 31, 1<<31 - 1},
		{5, 31, 5},
		{5, 32, 5},
		{5, 63, 5},
		{5, 64, 5},
		{5, 65, 5},
		{5, -1, 5},
		{5, -2, 5},
		{5, math.MinInt, 5},
		{5, math.MaxInt, 5},
		{-5, 2, -5},
		{-1, 0, -1},
		{-1, 1, -1},
		{-1, 30, -1},
		{-1, -1, -1},
		{-1, 31, -1},
		{math.MinInt, 1, math.MinInt},
		{math.MinInt + 1, 2, math.MinInt + 1},
		{math.MinInt, math.MinInt, math.MinInt},
		{math.MinInt, math.MaxInt, math.MinInt},
		{math.MaxInt, 0, math.MaxInt},
		{math.MaxInt, 1, math.MaxInt - 1},
		{math.MaxInt, 30, math.MaxInt - (1<<30 - 1)},
		{math.MaxInt, 31, math.MaxInt},
		{math.MaxInt, math.MaxInt, math.MaxInt},
	} {
		if n := bits.Align(c[0], c[1]); n != c[2] {
			t.Errorf("Align(%d, %d) = %d, want %d", c[0], c[1], n, c[2])
		}
	}
}

// P1.2: the greatest multiple that is at most n, for every order.
func TestAlignGreatest(t *testing.T) {
	for order := 0; order <= 30; order++ {
		p := 1 << order
		for _, n := range []int{0, 1, p - 1, p, p + 1, 2*p - 1, 2 * p, 5*p + 1, 7*p - 1, 123456789, math.MaxInt - 1, math.MaxInt} {
			a := bits.Align(n, order)
			if a%p != 0 || a > n || n-a >= p {
				t.Errorf("Align(%d, %d) = %d", n, order, a)
			}
		}
	}
}

// P1.2: none, all, each bit alone, each bit missing.
func TestCount(t *testing.T) {
	for _, c := range []struct {
		x    uint64
		want int
	}{{0, 0}, {all, 64}, {0xF0F, 8}, {1, 1}, {1 << 63, 1}, {all >> 1, 63}, {all - 1, 63}, {1<<63 | 1, 2}, {0x5555555555555555, 32}, {0xAAAAAAAAAAAAAAAA, 32}, {0xFFFFFFFF00000000, 32}} {
		if n := bits.Count(c.x); n != c.want {
			t.Errorf("Count(%#x) = %d, want %d", c.x, n, c.want)
		}
	}
	for place := range 64 {
		one := uint64(1) << place
		if n, m := bits.Count(one), bits.Count(all^one); n != 1 || m != 63 {
			t.Errorf("bit %d: alone %d, missing %d, want 1, 63", place, n, m)
		}
	}
	for x := range uint64(1 << 12) {
		want := 0
		for place := range 12 {
			want += int(bit(x, place))
		}
		if n := bits.Count(x); n != want {
			t.Errorf("Count(%#x) = %d, want %d", x, n, want)
		}
	}
}

// P1.3: for every field, Get returns what Put has stored, no other bit
// changes, and the previous value put back restores the word.
func TestPutThenGet(t *testing.T) {
	eachField(t, func(from, many int) {
		for _, x := range words {
			before, _ := bits.Get(x, from, many)
			for _, b := range values(many) {
				w, is := bits.Put(x, b, from, many)
				if n, got := bits.Get(w, from, many); !is || !got || n != b {
					t.Errorf("Put(%#x, %#x, %d, %d): %v, then Get = %#x, %v", x, b, from, many, is, n, got)
				}
				if othersDiffer(w, x, from, many) {
					t.Errorf("Put(%#x, %#x, %d, %d) = %#x: a bit beside the field has changed", x, b, from, many, w)
				}
				if again, is := bits.Put(w, before, from, many); again != x || !is {
					t.Errorf("Put(%#x, %#x, %d, %d) = %#x, %v, want %#x, true", w, before, from, many, again, is, x)
				}
			}
		}
	})
}

// othersDiffer reports whether two words differ in a bit outside a field.
func othersDiffer(x, y uint64, from, many int) bool {
	for place := range 64 {
		inside := place >= from && place < from+many
		if !inside && (x^y)>>place&1 != 0 {
			return true
		}
	}
	return false
}

// R4: an answer depends on the arguments alone, whatever was asked ahead.
func TestSameAgain(t *testing.T) {
	for range 2 {
		if n, is := bits.Get(0xABCD, 4, 8); n != 0xBC || !is {
			t.Errorf("Get = %#x, %v", n, is)
		}
		if w, is := bits.Put(0, 5, 4, 3); w != 80 || !is {
			t.Errorf("Put = %d, %v", w, is)
		}
		if k, n, m := bits.Log(5), bits.Align(13, 2), bits.Count(7); k != 3 || n != 12 || m != 3 {
			t.Errorf("Log %d, Align %d, Count %d", k, n, m)
		}
		bits.Get(all, 64, 1)
		bits.Put(all, all, 0, 63)
	}
}
