package image_test

import (
	"bytes"
	"encoding/binary"
	"encoding/hex"
	"fmt"
	"math"
	"slices"
	"strings"
	"sync"
	"testing"

	"trunnion/api"
	"trunnion/image"
)

// edges are numbers around all bounds of a Page, and the ends of int. Cut to
// 32, 16 or 12 bits, many of them are Pages.
var edges = []int{math.MinInt, math.MinInt + 1, math.MinInt + 5, math.MinInt + 4095, math.MinInt32, -65536, -65531, -4097, -4096, -4095, -256, -255, -2, -1, 0, 1, 2, 5, 15, 16, 17, 254, 255, 256, 257, 258, 511, 512, 4079, 4080, 4094, 4095, 4096, 4097, 4101, 8191, 8192, 65535, 65536, 65541, math.MaxInt32, 1 << 32, 1<<32 + 5, 1<<32 + 4095, 1 << 62, math.MaxInt - 5, math.MaxInt - 1, math.MaxInt}

// wordEdges are words that tell when a byte of them is lost, moved or changed.
var wordEdges = []uint64{0, 1, 7, 0x80, 0xff, 0x100, 0xff00, 0x0123456789abcdef, 0xfedcba9876543210, 0x0807060504030201, 1 << 31, 1<<32 - 1, 1 << 32, 1 << 56, 0xff << 56, 1<<63 - 1, 1 << 63, math.MaxUint64 - 1, math.MaxUint64}

// rightOf asks the document's words, one by one.
func rightOf(l []image.Part) bool {
	if len(l) == 0 || len(l) >= 17 {
		return false
	}
	for i := range l {
		if l[i].Page < 0 || l[i].Page > 4095 {
			return false
		}
		if i > 0 && l[i-1].Page >= l[i].Page {
			return false
		}
		if len(l[i].Words) == 0 || len(l[i].Words) >= 17 {
			return false
		}
	}
	return true
}

// serial writes the parts down as the document has them, valid or not, as long
// as each number has room; it goes by way of hexadecimal digits.
func serial(t *testing.T, l []image.Part) []byte {
	t.Helper()
	return serialOf(t, len(l), l)
}

// serialOf is serial with another number of parts than there are.
func serialOf(t *testing.T, many int, l []image.Part) []byte {
	t.Helper()
	var text strings.Builder
	fmt.Fprintf(&text, "%02x", many)
	for _, p := range l {
		write := 0
		if p.Write {
			write = 1
		}
		fmt.Fprintf(&text, "%04x%02x%02x", p.Page, write, len(p.Words))
		for _, w := range p.Words {
			fmt.Fprintf(&text, "%016x", w)
		}
	}
	b, err := hex.DecodeString(text.String())
	if err != nil {
		t.Fatal(err)
	}
	return b
}

// imageOf is what Read must answer; the bool is whether there is an image. It
// asks at each place of b whether it may stand there.
func imageOf(b []byte) ([]image.Part, bool) {
	if len(b) < 1 || b[0] < 1 || b[0] > 16 {
		return nil, false
	}
	l := []image.Part{}
	at := 1
	for range b[0] {
		if len(b)-at < 4 || b[at+2] > 1 || b[at+3] < 1 || b[at+3] > 16 || len(b)-at < 4+8*int(b[at+3]) {
			return nil, false
		}
		p := image.Part{Page: int(binary.BigEndian.Uint16(b[at:])), Write: b[at+2] == 1}
		if p.Page > 4095 || len(l) > 0 && p.Page <= l[len(l)-1].Page {
			return nil, false
		}
		many := int(b[at+3])
		at += 4
		for range many {
			p.Words = append(p.Words, binary.BigEndian.Uint64(b[at:]))
			at += 8
		}
		l = append(l, p)
	}
	return l, at == len(b)
}

// equal is whether two images have the same parts.
func equal(l, m []image.Part) bool {
	return slices.EqualFunc(l, m, func(p, q image.Part) bool {
		return p.Page == q.Page && p.Write == q.Write && slices.Equal(p.Words, q.Words)
	})
}

// copied is an image of its own with the same parts.
func copied(l []image.Part) []image.Part {
	m := slices.Clone(l)
	for i := range m {
		m[i].Words = slices.Clone(m[i].Words)
	}
	return m
}

// same holds Right and Bytes of l against what they must answer and, if it is
// valid, Read of its bytes against l.
func same(t *testing.T, l []image.Part) {
	t.Helper()
	right := rightOf(l)
	before := copied(l)
	if got := image.Right(l); got != right {
		t.Errorf("Right(%v) = %v, want %v", l, got, right)
	}
	b, e := image.Bytes(l)
	if !equal(l, before) {
		t.Errorf("%v became %v", before, l)
	}
	if !right {
		if e != api.ErrArg || len(b) != 0 {
			t.Errorf("Bytes(%v) = %x, %d, want nothing, ErrArg", l, b, e)
		}
		return
	}
	if want := serial(t, l); e != api.OK || !bytes.Equal(b, want) {
		t.Errorf("Bytes(%v) = %x, %d, want %x, OK", l, b, e, want)
	}
	sameRead(t, b)
	if m, e := image.Read(b); e != api.OK || !equal(m, l) {
		t.Errorf("Read of the bytes of %v = %v, %d", l, m, e)
	}
}

// sameRead holds Read of b against what it must answer and, if that is an
// image, its bytes against b.
func sameRead(t *testing.T, b []byte) {
	t.Helper()
	want, is := imageOf(b)
	before := bytes.Clone(b)
	l, e := image.Read(b)
	if !bytes.Equal(b, before) {
		t.Errorf("Read changed %x to %x", before, b)
	}
	if !is {
		if e != api.ErrForm || len(l) != 0 {
			t.Errorf("Read(%x) = %v, %d, want nothing, ErrForm", b, l, e)
		}
		return
	}
	if e != api.OK || !equal(l, want) {
		t.Errorf("Read(%x) = %v, %d, want %v, OK", b, l, e, want)
	}
	if back, e := image.Bytes(l); e != api.OK || !bytes.Equal(back, b) {
		t.Errorf("Bytes of Read(%x) = %x, %d", b, back, e)
	}
	if !image.Right(l) {
		t.Errorf("Read(%x) = %v, which is not valid", b, l)
	}
}

// refused is a Read that must answer ErrForm, whatever imageOf says of b.
func refused(t *testing.T, b []byte) {
	t.Helper()
	if l, e := image.Read(b); e != api.ErrForm || len(l) != 0 {
		t.Errorf("Read(%x) = %v, %d, want nothing, ErrForm", b, l, e)
	}
	sameRead(t, b)
}

// wrong is a list that must not be valid, whatever rightOf says of it.
func wrong(t *testing.T, l []image.Part) {
	t.Helper()
	if image.Right(l) {
		t.Errorf("Right(%v)", l)
	}
	if b, e := image.Bytes(l); e != api.ErrArg || len(b) != 0 {
		t.Errorf("Bytes(%v) = %x, %d, want nothing, ErrArg", l, b, e)
	}
	same(t, l)
}

// valid is a list that must be valid, whatever rightOf says of it.
func valid(t *testing.T, l []image.Part) {
	t.Helper()
	if !image.Right(l) {
		t.Errorf("not Right(%v)", l)
	}
	if b, e := image.Bytes(l); e != api.OK || len(b) == 0 {
		t.Errorf("Bytes(%v) = %x, %d", l, b, e)
	}
	same(t, l)
}

// words are many words, all of them different, and so are the bytes of each.
func words(many int) []uint64 {
	l := make([]uint64, many)
	for i := range l {
		l[i] = 0x0123456789abcdef + uint64(i)*0x1010101010101010
	}
	return l
}

// pages are parts with these Pages, of one word, and by turns writable.
func pages(all ...int) []image.Part {
	l := make([]image.Part, len(all))
	for i, page := range all {
		l[i] = image.Part{Page: page, Write: i%2 == 0, Words: words(1)}
	}
	return l
}

// rising are many parts whose Pages rise by one from the Page from on.
func rising(from, many int) []image.Part {
	all := make([]int, many)
	for i := range all {
		all[i] = from + i
	}
	return pages(all...)
}

// some are valid images of several shapes.
func some() [][]image.Part {
	greatest := rising(4080, 16)
	for i := range greatest {
		greatest[i].Words = words(16)
	}
	mixed := pages(0, 1, 255, 256, 258, 4095)
	for i := range mixed {
		mixed[i].Words = wordEdges[:1+3*i]
	}
	return [][]image.Part{
		{{Page: 5, Write: true, Words: []uint64{7}}},
		{{Page: 0, Words: []uint64{0}}},
		{{Page: 4095, Write: true, Words: []uint64{math.MaxUint64}}},
		{{Page: 257, Write: true, Words: []uint64{1 << 56, 1}}, {Page: 513, Words: []uint64{0x0101010101010101}}},
		{{Page: 1, Words: []uint64{0}}, {Page: 2, Words: []uint64{0}}, {Page: 3, Words: []uint64{0}}},
		{{Page: 1, Write: true, Words: words(16)}, {Page: 16, Words: words(15)}},
		rising(0, 16),
		mixed,
		greatest,
	}
}

// dice is a plain series of numbers that look mixed.
type dice uint64

func (d *dice) next() uint64 {
	*d = *d*6364136223846793005 + 1442695040888963407
	return uint64(*d >> 33)
}

// below is a number from 0 to n-1.
func (d *dice) below(n int) int { return int(d.next() % uint64(n)) }

// word is one of all words, or an edge.
func (d *dice) word() uint64 {
	if d.below(3) == 0 {
		return wordEdges[d.below(len(wordEdges))]
	}
	return d.next()<<40 ^ d.next()<<20 ^ d.next()
}

// image are up to 16 parts that are valid.
func (d *dice) image() []image.Part {
	var l []image.Part
	page := d.below(200)
	for range 1 + d.below(16) {
		p := image.Part{Page: page, Write: d.below(2) == 0}
		for range 1 + d.below(16) {
			p.Words = append(p.Words, d.word())
		}
		l = append(l, p)
		page += 1 + d.below(200)
	}
	return l
}

// The document's example: page 5, which is writable, with the word 7.
func TestDocument(t *testing.T) {
	b := []byte{1, 0, 5, 1, 1, 0, 0, 0, 0, 0, 0, 0, 7}
	l := []image.Part{{Page: 5, Write: true, Words: []uint64{7}}}
	if got, e := image.Bytes(l); e != api.OK || !bytes.Equal(got, b) {
		t.Errorf("Bytes = %v, %d", got, e)
	}
	if got, e := image.Read(b); e != api.OK || !equal(got, l) {
		t.Errorf("Read = %v, %d", got, e)
	}
	if !image.Right(l) {
		t.Error("not Right")
	}
}

// P14.1: the example of the README, written out.
func TestReadme(t *testing.T) {
	l := []image.Part{{Page: 5, Write: true, Words: []uint64{7}}, {Page: 258, Words: []uint64{1 << 63, 9}}}
	b, e := image.Bytes(l)
	if e != api.OK || len(b) != 33 {
		t.Errorf("%v, %d", b, e)
	}
	m, e := image.Read(b)
	if e != api.OK || !equal(m, l) {
		t.Errorf("%v, %d", m, e)
	}
	if m, e = image.Read(b[:32]); e != api.ErrForm || len(m) != 0 {
		t.Errorf("%v, %d", m, e)
	}
	l[1].Page = 5
	if image.Right(l) {
		t.Error("Right")
	}
	if b, e = image.Bytes(l); e != api.ErrArg || len(b) != 0 {
		t.Errorf("%v, %d", b, e)
	}
}

// P14.1: each number has its bytes at its place, the most significant first.
func TestPlaces(t *testing.T) {
	l := []image.Part{
		{Page: 0x0102, Write: false, Words: []uint64{0x0807060504030201, 0xf1e2d3c4b5a69788}},
		{Page: 0x0a0b, Write: true, Words: []uint64{0x1122334455667788}},
	}
	want := []byte{
		2,
		0x01, 0x02, 0, 2, 8, 7, 6, 5, 4, 3, 2, 1, 0xf1, 0xe2, 0xd3, 0xc4, 0xb5, 0xa6, 0x97, 0x88,
		0x0a, 0x0b, 1, 1, 0x11, 0x22, 0x33, 0x44, 0x55, 0x66, 0x77, 0x88,
	}
	if b, e := image.Bytes(l); e != api.OK || !bytes.Equal(b, want) {
		t.Errorf("%x, %d", b, e)
	}
	if m, e := image.Read(want); e != api.OK || !equal(m, l) {
		t.Errorf("%v, %d", m, e)
	}
}

// P14.1: some images and their bytes.
func TestSome(t *testing.T) {
	for _, l := range some() {
		valid(t, l)
	}
}

// P14.1: no parts are no image, nil or empty, nor are 17 and more; 1 to 16 are.
func TestHowManyParts(t *testing.T) {
	wrong(t, nil)
	wrong(t, []image.Part{})
	wrong(t, make([]image.Part, 0, 16))
	for many := 1; many <= 16; many++ {
		valid(t, rising(0, many))
		valid(t, rising(4096-many, many))
	}
	for _, many := range []int{17, 18, 32, 255, 256, 257, 258, 272, 512, 4096} {
		wrong(t, rising(0, many))
	}
}

// P14.1: the Page of one part is 0 to 4095.
func TestPage(t *testing.T) {
	for page := -300; page < 4400; page++ {
		l := pages(page)
		if image.Right(l) != (0 <= page && page <= 4095) {
			t.Errorf("Page %d: %v", page, image.Right(l))
		}
		same(t, l)
	}
	for _, page := range edges {
		same(t, pages(page))
	}
	valid(t, pages(0))
	valid(t, pages(4095))
	for _, page := range []int{-1, 4096, math.MinInt, math.MaxInt} {
		wrong(t, pages(page))
	}
}

// P14.1: a Page that may not be, as the first, the middle and the last one of
// some, and beside others that may not be either.
func TestPageAmongOthers(t *testing.T) {
	for _, page := range edges {
		same(t, pages(page, 5))
		same(t, pages(page, 4095))
		same(t, pages(0, page))
		same(t, pages(0, page, 4095))
		same(t, pages(7, 9, page))
		same(t, append(rising(0, 15), pages(page)...))
		same(t, append(pages(page), rising(4081, 15)...))
	}
	for _, first := range edges {
		for _, second := range edges {
			same(t, pages(first, second))
			same(t, pages(first, second, 4095))
			same(t, pages(0, first, second))
		}
	}
	for _, page := range []int{-1, math.MinInt, 4096, math.MaxInt} {
		wrong(t, pages(page, 5, 6))
		wrong(t, pages(5, page, 6))
		wrong(t, pages(5, 6, page))
	}
}

// P14.1: Pages rise strictly: at the beginning, in the middle and at the end.
func TestOrder(t *testing.T) {
	valid(t, pages(5, 6, 7, 8, 9, 10))
	for _, l := range [][]image.Part{
		pages(5, 5, 7, 8, 9, 10), pages(6, 5, 7, 8, 9, 10), pages(5, 6, 7, 7, 9, 10), pages(5, 6, 8, 7, 9, 10), pages(5, 6, 7, 8, 9, 9), pages(5, 6, 7, 8, 10, 9),
		pages(0, 0), pages(4095, 4095), pages(4095, 0), pages(1, 0), pages(5, 6, 5), pages(5, 7, 6), pages(5, 9, 5, 9), pages(5, 6, 7, 8, 9, 5),
	} {
		wrong(t, l)
	}
	for at := range 15 {
		for _, step := range []int{-4095, -256, -2, -1, 0, 1, 2, 256} {
			l := rising(100, 16)
			l[at+1].Page = l[at].Page + step
			same(t, l)
		}
	}
	// All lists of up to four Pages of 0 to 4.
	for n := range 625 {
		all := []int{n % 5, n / 5 % 5, n / 25 % 5, n / 125}
		for many := range 5 {
			same(t, pages(all[:many]...))
		}
	}
}

// P14.1: each part has 1 to 16 Words.
func TestHowManyWords(t *testing.T) {
	for _, at := range []int{0, 1, 7, 14, 15} {
		for many := range 40 {
			l := rising(50, 16)
			l[at].Words = words(many)
			if image.Right(l) != (1 <= many && many <= 16) {
				t.Errorf("%d Words of part %d: %v", many, at, image.Right(l))
			}
			same(t, l)
		}
		for _, many := range []int{255, 256, 257, 258, 272, 512, 4096, 65537} {
			l := rising(50, 16)
			l[at].Words = words(many)
			wrong(t, l)
		}
		l := rising(50, 16)
		l[at].Words = nil
		wrong(t, l)
		l[at].Words = []uint64{}
		wrong(t, l)
		l[at].Words = make([]uint64, 0, 16)
		wrong(t, l)
	}
	wrong(t, make([]image.Part, 1))
	wrong(t, []image.Part{{Page: 1, Write: true}})
}

// P14.1: all patterns of Write over up to six parts.
func TestWrite(t *testing.T) {
	for many := 1; many <= 6; many++ {
		for pattern := range 1 << many {
			l := rising(9, many)
			for i := range l {
				l[i].Write = pattern>>i&1 == 1
			}
			valid(t, l)
		}
	}
}

// P14.1: all words, at each place of a part.
func TestWords(t *testing.T) {
	for _, w := range wordEdges {
		for at := range 16 {
			l := rising(9, 2)
			l[1].Words = words(16)
			l[1].Words[at] = w
			valid(t, l)
		}
		valid(t, []image.Part{{Page: 1, Words: []uint64{w}}})
	}
	for bit := range 64 {
		valid(t, []image.Part{{Page: 1, Words: []uint64{1 << bit, ^uint64(1 << bit)}}})
	}
}

// P14.1: a list that is not valid in its last part alone has no bytes at all.
func TestLastPart(t *testing.T) {
	for _, last := range []image.Part{
		{Page: 4096, Words: words(1)}, {Page: -1, Words: words(1)}, {Page: 14, Words: words(1)}, {Page: 13, Words: words(1)}, {Page: math.MaxInt, Words: words(1)}, {Page: math.MinInt, Words: words(1)},
		{Page: 99}, {Page: 99, Words: []uint64{}}, {Page: 99, Words: words(17)}, {},
	} {
		wrong(t, append(rising(0, 15), last))
		wrong(t, []image.Part{{Page: 14, Words: words(16)}, last})
		same(t, []image.Part{last})
	}
	wrong(t, append(rising(0, 16), image.Part{Page: 99, Words: words(1)}))
}

// P14.1: no bytes are no image, nil or empty.
func TestReadNothing(t *testing.T) {
	refused(t, nil)
	refused(t, []byte{})
	refused(t, make([]byte, 0, 100))
}

// P14.1: a byte for the number of parts, with as many parts behind it, with
// none, and with one more or less.
func TestReadHowManyParts(t *testing.T) {
	for many := range 256 {
		l := rising(0, many)
		b := serial(t, l)
		sameRead(t, b)
		if l, e := image.Read(b); (e == api.OK) != (1 <= many && many <= 16) {
			t.Errorf("%d parts: %v, %d", many, l, e)
		}
		refused(t, []byte{byte(many)})
		if many > 0 {
			refused(t, serialOf(t, many-1, l))
		}
		if many < 255 {
			refused(t, serialOf(t, many+1, l))
		}
		sameRead(t, serialOf(t, many, rising(0, 16)))
		refused(t, append([]byte{byte(many)}, make([]byte, 3)...))
		refused(t, append([]byte{byte(many)}, make([]byte, 4)...))
	}
	for _, many := range []int{0, 17, 255} {
		refused(t, serial(t, rising(0, many)))
	}
	// What 16 parts with 16 Words take is there for 17 and for 255, too.
	greatest := serial(t, some()[8])
	for _, many := range []byte{0, 15, 17, 255} {
		b := bytes.Clone(greatest)
		b[0] = many
		refused(t, b)
		refused(t, append(b, make([]byte, 100000)...))
	}
}

// P14.1: two bytes of each value for a Page.
func TestReadPage(t *testing.T) {
	for page := range 65536 {
		b := []byte{1, byte(page >> 8), byte(page), 1, 1, 0, 0, 0, 0, 0, 0, 0, 7}
		l, e := image.Read(b)
		if page > 4095 && (e != api.ErrForm || len(l) != 0) {
			t.Errorf("Page %d: %v, %d", page, l, e)
		}
		if page <= 4095 && (e != api.OK || len(l) != 1 || l[0].Page != page || !l[0].Write || !slices.Equal(l[0].Words, []uint64{7})) {
			t.Errorf("Page %d: %v, %d", page, l, e)
		}
	}
	for _, page := range []int{4096, 4097, 8192, 32768, 61440, 65535} {
		refused(t, serial(t, pages(page)))
		refused(t, serial(t, pages(3, page)))
		refused(t, serial(t, append(rising(0, 15), pages(page)...)))
	}
	sameRead(t, serial(t, pages(4094, 4095)))
}

// P14.1: Pages that are equal or fall, at the beginning, in the middle and at
// the end.
func TestReadOrder(t *testing.T) {
	for _, l := range [][]image.Part{
		pages(5, 5, 7, 8, 9, 10), pages(6, 5, 7, 8, 9, 10), pages(5, 6, 7, 7, 9, 10), pages(5, 6, 8, 7, 9, 10), pages(5, 6, 7, 8, 9, 9), pages(5, 6, 7, 8, 10, 9),
		pages(0, 0), pages(4095, 4095), pages(4095, 0), pages(1, 0), pages(256, 1), pages(256, 255), pages(511, 256), pages(5, 6, 5),
	} {
		refused(t, serial(t, l))
	}
	for at := range 15 {
		for _, step := range []int{-256, -2, -1, 0, 1, 2, 256} {
			l := rising(1000, 16)
			l[at+1].Page = l[at].Page + step
			sameRead(t, serial(t, l))
		}
	}
}

// P14.1: the byte for Write is 0 or 1, in each part.
func TestReadWrite(t *testing.T) {
	l := rising(7, 16)
	for at := range l {
		for n := range 256 {
			b := serial(t, l)
			b[1+12*at+2] = byte(n)
			m, e := image.Read(b)
			if n > 1 && (e != api.ErrForm || len(m) != 0) {
				t.Errorf("Write %d of part %d: %v, %d", n, at, m, e)
			}
			if n <= 1 && (e != api.OK || m[at].Write != (n == 1)) {
				t.Errorf("Write %d of part %d: %v, %d", n, at, m, e)
			}
			sameRead(t, b)
		}
	}
}

// P14.1: the byte for the number of Words is 1 to 16, with as many Words
// behind it, with none, and with one more or less.
func TestReadHowManyWords(t *testing.T) {
	for many := range 256 {
		for _, at := range []int{0, 1, 2} {
			l := rising(7, 3)
			l[at].Words = words(many)
			b := serial(t, l)
			if m, e := image.Read(b); (e == api.OK) != (1 <= many && many <= 16) {
				t.Errorf("%d Words of part %d: %v, %d", many, at, m, e)
			}
			sameRead(t, b)
			refused(t, b[:len(b)-8])
			refused(t, append(bytes.Clone(b), make([]byte, 8)...))
			b[1+12*at+3]++
			sameRead(t, b)
			b[1+12*at+3] -= 2
			sameRead(t, b)
		}
		refused(t, []byte{1, 0, 1, 0, byte(many)})
	}
	for _, many := range []int{0, 17, 255} {
		refused(t, serial(t, []image.Part{{Page: 3, Words: words(many)}}))
	}
}

// P14.2: no beginning of a serialization is one, and none with a byte more.
func TestBeginnings(t *testing.T) {
	for _, l := range some() {
		b := serial(t, l)
		for many := range b {
			refused(t, b[:many])
			refused(t, slices.Clip(b[:many]))
		}
		for more := range 256 {
			refused(t, append(bytes.Clone(b), byte(more)))
		}
		refused(t, append(bytes.Clone(b), b...))
		refused(t, append(bytes.Clone(b), b[1:]...))
		refused(t, append([]byte{0}, b...))
		refused(t, b[1:])
	}
}

// P14.1: serializations with any one byte replaced, removed or put in.
func TestOneByte(t *testing.T) {
	for _, l := range some()[:8] {
		b := serial(t, l)
		for at := range b {
			for n := range 256 {
				c := bytes.Clone(b)
				c[at] = byte(n)
				sameRead(t, c)
			}
			sameRead(t, slices.Delete(bytes.Clone(b), at, at+1))
			for _, n := range []byte{0, 1, 2, 16, 17, 255} {
				sameRead(t, slices.Insert(bytes.Clone(b), at, n))
			}
		}
	}
}

// P14.2: Read and Bytes are inverse to each other, over mixed images and mixed
// bytes.
func TestMixtures(t *testing.T) {
	d := dice(14)
	for range 3000 {
		l := d.image()
		same(t, l)
		b := serial(t, l)
		refused(t, b[:d.below(len(b))])
		for range 4 {
			b[d.below(len(b))] = byte([]int{0, 1, 2, 16, 17, 255, d.below(256)}[d.below(7)])
			sameRead(t, b)
		}
		p := &l[d.below(len(l))]
		switch d.below(3) {
		case 0:
			p.Page = edges[d.below(len(edges))]
		case 1:
			p.Words = words(d.below(20))
		case 2:
			l = append(l, l[d.below(len(l))])
		}
		same(t, l)
	}
	// Bytes that are small numbers alone are images now and then.
	found := 0
	for range 200000 {
		b := make([]byte, []int{13, 13, 21, 25, d.below(40)}[d.below(5)])
		for i := range b {
			b[i] = byte(d.below(3))
		}
		if _, is := imageOf(b); is {
			found++
		}
		sameRead(t, b)
	}
	if found < 1000 {
		t.Errorf("only %d of the mixed bytes were images", found)
	}
	for range 2000 {
		b := make([]byte, d.below(3000))
		for i := range b {
			b[i] = byte(d.next())
		}
		sameRead(t, b)
	}
}

// P14.2: different images have different bytes, none of which begin with
// another's.
func TestDifferent(t *testing.T) {
	var all [][]byte
	for n := range 256 {
		for _, many := range []int{1, 2} {
			l := pages(n&3, n>>2&3+n&3+1)[:many]
			for i := range l {
				l[i].Write = n>>(4+i)&1 == 1
				l[i].Words = []uint64{uint64(n >> 6 & 1), uint64(n >> 7)}[:1+n>>6&1]
			}
			b, e := image.Bytes(l)
			if e != api.OK {
				t.Fatal(l, e)
			}
			all = append(all, b)
			same(t, l)
		}
	}
	for i, b := range all {
		for _, c := range all[i+1:] {
			if bytes.HasPrefix(b, c) || bytes.HasPrefix(c, b) {
				l, _ := image.Read(b)
				m, _ := image.Read(c)
				if !equal(l, m) || !bytes.Equal(b, c) {
					t.Errorf("%x and %x: %v and %v", b, c, l, m)
				}
			}
		}
	}
}

// P14.1, R3: what Read returned changes nothing of the bytes, and stays as it
// is when these are changed.
func TestReadKeeps(t *testing.T) {
	for _, l := range some() {
		b := serial(t, l)
		m, e := image.Read(b)
		if e != api.OK || !equal(m, l) {
			t.Fatal(m, e)
		}
		for i := range b {
			b[i] = ^b[i]
		}
		if !equal(m, l) {
			t.Errorf("changed with the bytes: %v, want %v", m, l)
		}
		b = serial(t, l)
		m, _ = image.Read(b)
		for i := range m {
			m[i].Page, m[i].Write = -1, !m[i].Write
			for j := range m[i].Words {
				m[i].Words[j] = ^m[i].Words[j]
			}
			_ = append(m[i].Words, 1, 2, 3)
		}
		_ = append(m, image.Part{}, image.Part{})
		if !bytes.Equal(b, serial(t, l)) {
			t.Errorf("the bytes changed with what was read of them: %x", b)
		}
		if again, e := image.Read(b); e != api.OK || !equal(again, l) {
			t.Errorf("read again: %v, %d, want %v", again, e, l)
		}
	}
}

// R3: a part's Words are no other part's, even where they would be longer.
func TestReadPartsApart(t *testing.T) {
	for _, l := range some() {
		for at := range l {
			m, _ := image.Read(serial(t, l))
			longer := m[at].Words
			for range 200 {
				longer = append(longer, 99)
			}
			full := m[at].Words[:cap(m[at].Words)]
			for i := range full {
				full[i] = 99
			}
			m[at].Words = l[at].Words
			if !equal(m, l) {
				t.Errorf("part %d changed others: %v, want %v", at, m, l)
			}
		}
	}
}

// R3: neither what Read returned nor what Bytes returned is another call's.
func TestResultsApart(t *testing.T) {
	for _, l := range some() {
		b, _ := image.Bytes(l)
		c, _ := image.Bytes(l)
		m, _ := image.Read(b)
		for i := range b {
			b[i] = 0xee
		}
		full := b[:cap(b)]
		for i := range full {
			full[i] = 0xee
		}
		n, _ := image.Read(c)
		for i := range n {
			n[i].Page = -5
			clear(n[i].Words)
		}
		if !equal(m, l) || !bytes.Equal(c, serial(t, l)) {
			t.Errorf("changed: %v, %x", m, c)
		}
	}
}

// R3: what Bytes returned stays as it is when the parts are changed, and
// changes nothing of them.
func TestBytesKeeps(t *testing.T) {
	for _, l := range some() {
		want := serial(t, l)
		m := copied(l)
		b, e := image.Bytes(m)
		for i := range m {
			m[i].Page = 77
			clear(m[i].Words)
		}
		if e != api.OK || !bytes.Equal(b, want) {
			t.Errorf("changed with the parts: %x, want %x", b, want)
		}
		m = copied(l)
		b, _ = image.Bytes(m)
		for i := range b {
			b[i] = ^b[i]
		}
		if !equal(m, l) {
			t.Errorf("the parts changed with the bytes: %v, want %v", m, l)
		}
	}
}

// R3: what lies behind the parts, the Words and the bytes is not touched.
func TestBehind(t *testing.T) {
	l := []image.Part{{Page: 1, Words: []uint64{5, 6, 7}[:1]}, {Page: 2, Words: words(2)}, {Page: 3, Words: words(3)}}
	if b, e := image.Bytes(l[:1]); e != api.OK || !bytes.Equal(b, serial(t, l[:1])) {
		t.Errorf("%x, %d", b, e)
	}
	if !slices.Equal(l[0].Words[:3], []uint64{5, 6, 7}) || l[1].Page != 2 || l[2].Page != 3 {
		t.Errorf("%v, %v", l, l[0].Words[:3])
	}
	b := serial(t, l)
	before := bytes.Clone(b)
	for many := range b {
		refused(t, b[:many])
	}
	if !bytes.Equal(b, before) {
		t.Errorf("%x, want %x", b, before)
	}
	// Parts that share their Words are as those that don't.
	shared := words(16)
	for i := range l {
		l[i].Words = shared[i : i+14]
	}
	valid(t, l)
}

// R1, R4: an answer depends on its argument alone, whatever was asked before.
func TestAgain(t *testing.T) {
	images := some()
	for _, l := range images {
		for _, other := range images {
			b, _ := image.Bytes(l)
			_, _ = image.Read(serial(t, other)[1:])
			_, _ = image.Bytes(other[:0])
			_, _ = image.Bytes(other)
			_, _ = image.Read(b[:len(b)-1])
			c, e := image.Bytes(l)
			if e != api.OK || !bytes.Equal(b, c) {
				t.Errorf("%x, then %x, %d", b, c, e)
			}
			if m, e := image.Read(b); e != api.OK || !equal(m, l) {
				t.Errorf("%v, %d, want %v", m, e, l)
			}
		}
	}
}

// R4: calls by several goroutines, on arguments that they share.
func TestAtOnce(t *testing.T) {
	images := some()
	var all sync.WaitGroup
	for range 8 {
		all.Go(func() {
			for _, l := range images {
				b, e := image.Bytes(l)
				m, f := image.Read(b)
				if e != api.OK || f != api.OK || !equal(m, l) || !image.Right(l) {
					t.Errorf("%x, %d: %v, %d, want %v", b, e, m, f, l)
				}
				if m, e := image.Read(b[:len(b)-1]); e != api.ErrForm || len(m) != 0 {
					t.Errorf("%v, %d", m, e)
				}
			}
		})
	}
	all.Wait()
}

// P0, R7: long bytes, of one value or with an image ahead of them, are none.
func TestLong(t *testing.T) {
	for n := range 256 {
		refused(t, bytes.Repeat([]byte{byte(n)}, 600000))
	}
	for _, l := range some() {
		refused(t, append(serial(t, l), make([]byte, 1<<20)...))
	}
	wrong(t, make([]image.Part, 100000))
	wrong(t, []image.Part{{Page: 1, Words: make([]uint64, 100000)}})
}
