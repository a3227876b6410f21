package isa_test

import (
	"fmt"
	"math"
	"regexp"
	"strconv"
	"strings"
	"testing"

	"trunnion/api"
	"trunnion/isa"
)

// edges are numbers around all bounds of an operation, a register and an Imm,
// and the ends of int. Cut to 32, 16, 8 or 3 bits, many of them are right ones.
var edges = []int{math.MinInt, math.MinInt + 1, math.MinInt + 7, math.MinInt + 11, math.MinInt + 65535, math.MinInt32, -65536, -65535, -256, -255, -245, -9, -8, -7, -2, -1, 0, 1, 2, 6, 7, 8, 9, 10, 11, 12, 13, 15, 16, 127, 128, 255, 256, 257, 263, 267, 65534, 65535, 65536, 65537, math.MaxInt32, 1 << 32, 1<<32 + 1, 1<<32 + 7, 1<<32 + 11, 1<<32 + 65535, 1 << 56, 1<<61 + 1, 1 << 62, math.MaxInt - 7, math.MaxInt - 1, math.MaxInt}

// names are the mnemonics of the operations from 0 on, as the document has
// them.
var names = strings.Fields("halt imm add sub and xor load store jump zero less trap")

// operands are the fields, beside Op, that an operation has.
func operands(op int) string {
	switch names[op] {
	case "add", "sub", "and", "xor", "less":
		return "ABC"
	case "load", "store":
		return "ABI"
	case "imm", "zero":
		return "AI"
	case "jump", "trap":
		return "I"
	}
	return ""
}

// field is a pointer to one of the fields beside Op.
func field(i *api.Instr, letter rune) *int {
	switch letter {
	case 'A':
		return &i.A
	case 'B':
		return &i.B
	case 'C':
		return &i.C
	}
	return &i.Imm
}

// wellFormed asks the document's words, one by one.
func wellFormed(i api.Instr) bool {
	if i.Op < 0 || i.Op > 11 {
		return false
	}
	for _, letter := range "ABCI" {
		most := 0
		if strings.ContainsRune(operands(i.Op), letter) {
			most = 7
			if letter == 'I' {
				most = 65535
			}
		}
		if n := *field(&i, letter); n < 0 || n > most {
			return false
		}
	}
	return true
}

// wordOf is the word of a well-formed instruction.
func wordOf(i api.Instr) uint64 {
	return uint64(i.Op + 256*i.A + 2048*i.B + 16384*i.C + 16777216*i.Imm)
}

// textOf is the text of a well-formed instruction.
func textOf(i api.Instr) string {
	switch operands(i.Op) {
	case "ABC":
		return fmt.Sprintf("%s r%d r%d r%d", names[i.Op], i.A, i.B, i.C)
	case "ABI":
		return fmt.Sprintf("%s r%d r%d %d", names[i.Op], i.A, i.B, i.Imm)
	case "AI":
		return fmt.Sprintf("%s r%d %d", names[i.Op], i.A, i.Imm)
	case "I":
		return fmt.Sprintf("%s %d", names[i.Op], i.Imm)
	}
	return names[i.Op]
}

// forms are the forms of all texts, but for the greatest number.
var forms = regexp.MustCompile(`^(?:(halt)|(add|sub|and|xor|less) r([0-7]) r([0-7]) r([0-7])|(load|store) r([0-7]) r([0-7]) (0|[1-9][0-9]{0,4})|(imm|zero) r([0-7]) (0|[1-9][0-9]{0,4})|(jump|trap) (0|[1-9][0-9]{0,4}))$`)

// ofText is what Read must answer; the bool is whether there is an instruction.
func ofText(s string) (api.Instr, bool) {
	if !forms.MatchString(s) {
		return api.Instr{}, false
	}
	pieces := strings.Split(s, " ")
	var i api.Instr
	for n, name := range names {
		if name == pieces[0] {
			i.Op = n
		}
	}
	for n, letter := range operands(i.Op) {
		value := 0
		for _, digit := range strings.TrimPrefix(pieces[n+1], "r") {
			value = 10*value + int(digit-'0')
		}
		*field(&i, letter) = value
	}
	if i.Imm > 65535 {
		return api.Instr{}, false
	}
	return i, true
}

// same holds Word and Text of i against what they must answer and, if it is
// well-formed, Of and Read of these against i.
func same(t *testing.T, i api.Instr) {
	t.Helper()
	var word uint64
	var text string
	want := api.ErrArg
	if wellFormed(i) {
		word, text, want = wordOf(i), textOf(i), api.OK
	}
	if w, e := isa.Word(i); w != word || e != want {
		t.Errorf("Word(%+v) = %d, %d, want %d, %d", i, w, e, word, want)
	}
	if s, e := isa.Text(i); s != text || e != want {
		t.Errorf("Text(%+v) = %q, %d, want %q, %d", i, s, e, text, want)
	}
	if want == api.OK {
		sameOf(t, word, i, true)
		sameRead(t, text)
	}
}

// sameOf holds Of against what it must answer; is: there is an instruction.
func sameOf(t *testing.T, w uint64, want api.Instr, is bool) {
	t.Helper()
	wrong := api.OK
	if !is {
		wrong = api.ErrForm
	}
	if i, e := isa.Of(w); i != want || e != wrong {
		t.Errorf("Of(%d) = %+v, %d, want %+v, %d", w, i, e, want, wrong)
	}
}

// sameRead holds Read against what it must answer.
func sameRead(t *testing.T, s string) {
	t.Helper()
	want, is := ofText(s)
	wrong := api.OK
	if !is {
		wrong = api.ErrForm
	}
	if i, e := isa.Read(s); i != want || e != wrong {
		t.Errorf("Read(%.100q) = %+v, %d, want %+v, %d", s, i, e, want, wrong)
	}
}

// eachWith calls f with the well-formed instructions whose Imm, where it is an
// operand, is one of those.
func eachWith(imms []int, f func(i api.Instr)) {
	for op := range 12 {
		list := []api.Instr{{Op: op}}
		for _, letter := range operands(op) {
			values := []int{0, 1, 2, 3, 4, 5, 6, 7}
			if letter == 'I' {
				values = imms
			}
			var longer []api.Instr
			for _, i := range list {
				for _, n := range values {
					*field(&i, letter) = n
					longer = append(longer, i)
				}
			}
			list = longer
		}
		for _, i := range list {
			f(i)
		}
	}
}

// P12.1 and P12.2: an instruction of each operation, and the document's
// examples, all written out.
func TestEachOperation(t *testing.T) {
	for _, c := range []struct {
		i    api.Instr
		word uint64
		text string
	}{
		{api.Instr{Op: api.OpHalt}, 0, "halt"},
		{api.Instr{Op: api.OpImm, A: 1, Imm: 5}, 1 + 256 + 5<<24, "imm r1 5"},
		{api.Instr{Op: api.OpAdd, A: 1, B: 2, C: 3}, 53506, "add r1 r2 r3"},
		{api.Instr{Op: api.OpAdd, A: 1, B: 1, C: 1}, 2 + 256 + 2048 + 16384, "add r1 r1 r1"},
		{api.Instr{Op: api.OpSub, A: 7, B: 0, C: 4}, 3 + 7*256 + 4*16384, "sub r7 r0 r4"},
		{api.Instr{Op: api.OpAnd, A: 0, B: 7, C: 5}, 4 + 7*2048 + 5*16384, "and r0 r7 r5"},
		{api.Instr{Op: api.OpXor, A: 6, B: 5, C: 7}, 5 + 6*256 + 5*2048 + 7*16384, "xor r6 r5 r7"},
		{api.Instr{Op: api.OpLoad, A: 2, B: 3, Imm: 65535}, 6 + 2*256 + 3*2048 + 65535<<24, "load r2 r3 65535"},
		{api.Instr{Op: api.OpStore, A: 1, B: 0, Imm: 32768}, 7 + 256 + 32768<<24, "store r1 r0 32768"},
		{api.Instr{Op: api.OpJump, Imm: 10}, 8 + 10<<24, "jump 10"},
		{api.Instr{Op: api.OpZero, A: 4, Imm: 0}, 9 + 4*256, "zero r4 0"},
		{api.Instr{Op: api.OpLess, A: 3, B: 2, C: 1}, 10 + 3*256 + 2*2048 + 16384, "less r3 r2 r1"},
		{api.Instr{Op: api.OpTrap, Imm: 65535}, 11 + 65535<<24, "trap 65535"},
	} {
		if w, e := isa.Word(c.i); w != c.word || e != api.OK {
			t.Errorf("Word(%+v) = %d, %d, want %d, OK", c.i, w, e, c.word)
		}
		if i, e := isa.Of(c.word); i != c.i || e != api.OK {
			t.Errorf("Of(%d) = %+v, %d, want %+v, OK", c.word, i, e, c.i)
		}
		if s, e := isa.Text(c.i); s != c.text || e != api.OK {
			t.Errorf("Text(%+v) = %q, %d, want %q, OK", c.i, s, e, c.text)
		}
		if i, e := isa.Read(c.text); i != c.i || e != api.OK {
			t.Errorf("Read(%q) = %+v, %d, want %+v, OK", c.text, i, e, c.i)
		}
	}
}

// P12.1, P12.2, R1: Op of -1 to 12, and each of the edges, also with numbers
// that no operation could have.
func TestOperations(t *testing.T) {
	for _, op := range append([]int{3, 4, 5, 14, -3, -4}, edges...) {
		same(t, api.Instr{Op: op})
		same(t, api.Instr{Op: op, Imm: 1})
		same(t, api.Instr{Op: op, A: 1})
		same(t, api.Instr{Op: op, A: 1, Imm: 1})
		same(t, api.Instr{Op: op, A: 1, B: 1, Imm: 1})
		same(t, api.Instr{Op: op, A: 1, B: 1, C: 1})
		same(t, api.Instr{Op: op, A: 1, B: 1, C: 1, Imm: 1})
		same(t, api.Instr{Op: op, A: 8, B: -1, C: 8, Imm: 65536})
	}
}

// P12.1, P12.2: each field of each operation at each of the edges, where it is
// an operand and where it is none, with the others 0 or not.
func TestFields(t *testing.T) {
	for op := range 12 {
		full := api.Instr{Op: op}
		for _, letter := range operands(op) {
			*field(&full, letter) = 5
		}
		for _, letter := range "ABCI" {
			for _, n := range edges {
				for _, i := range []api.Instr{{Op: op}, full} {
					*field(&i, letter) = n
					same(t, i)
				}
			}
		}
	}
}

// P12.1, P12.2: two fields at once, also such that one would make up for the
// other in a sum.
func TestTwoFields(t *testing.T) {
	values := []int{-65536, -256, -64, -9, -8, -1, 0, 1, 7, 8, 9, 64, 255, 256, 65535, 65536, math.MinInt, math.MaxInt}
	for op := range 12 {
		for n, first := range "ABCI" {
			for _, second := range "ABCI"[n+1:] {
				for _, x := range values {
					for _, y := range values {
						i := api.Instr{Op: op}
						*field(&i, first), *field(&i, second) = x, y
						same(t, i)
					}
				}
			}
		}
	}
}

// P12.1: all words without an Imm: Of answers ErrForm, and a zero instruction,
// for each that is not the word of one; so for many an Imm, and for those with
// a bit behind it.
func TestOfAllWords(t *testing.T) {
	all := map[uint64]api.Instr{}
	eachWith([]int{0}, func(i api.Instr) { all[wordOf(i)] = i })
	if len(all) != 1+5*512+2*64+2*8+2 {
		t.Fatalf("the test is wrong: %d words", len(all))
	}
	for w := range uint64(1 << 24) {
		if i, is := all[w]; is || w < 1<<18 {
			sameOf(t, w, i, is)
		} else if i, e := isa.Of(w); i != (api.Instr{}) || e != api.ErrForm {
			t.Fatalf("Of(%d) = %+v, %d, want a zero instruction, ErrForm", w, i, e)
		}
	}
	for _, imm := range []int{1, 2, 255, 256, 4096, 32768, 65534, 65535, 65536, 65537, 1 << 17, 1 << 23, 1<<39 - 1} {
		for low := range uint64(1 << 18) {
			w := low | uint64(imm)<<24
			i, is := all[low]
			if is && imm <= 65535 && strings.HasSuffix(operands(i.Op), "I") {
				i.Imm = imm
				sameOf(t, w, i, true)
			} else {
				sameOf(t, w, api.Instr{}, false)
			}
		}
	}
}

// P12.1: the words of instructions of all operations with one bit turned over,
// at each place of 64, which may make it that of another one.
func TestOfWordsWithAnotherBit(t *testing.T) {
	byWord := map[uint64]api.Instr{}
	near := []int{0, 1, 5, 4096, 21845, 32767, 32768, 43690, 65534, 65535}
	imms := append([]int{}, near...)
	for _, n := range near {
		for bit := range 16 {
			imms = append(imms, n^1<<bit)
		}
	}
	eachWith(imms, func(i api.Instr) { byWord[wordOf(i)] = i })
	count := 0
	eachWith(near, func(i api.Instr) {
		for bit := range 64 {
			w := wordOf(i) ^ 1<<bit
			other, is := byWord[w]
			sameOf(t, w, other, is)
			if !is {
				count++
			}
		}
	})
	if count < 10000 {
		t.Errorf("only %d words were none of an instruction", count)
	}
}

// P12.1: words whose lowest 8 bits are no operation, with all bits behind them
// or none.
func TestOfNoOperation(t *testing.T) {
	for low := uint64(12); low < 256; low++ {
		for _, rest := range []uint64{0, 1 << 8, 7 << 8, 1 << 14, 1 << 24, 65535 << 24, 1 << 40, 1 << 63, math.MaxUint64 &^ 255} {
			sameOf(t, rest|low, api.Instr{}, false)
		}
	}
	for _, w := range []uint64{12, 13, 127, 128, 255, 256, 1 << 17, 1 << 23, 1 << 24, 1 << 40, 1 << 63, math.MaxUint64, math.MaxUint64 - 255, math.MaxInt64} {
		sameOf(t, w, api.Instr{}, false)
	}
}

// P12.2: each mnemonic with each list of operands of up to four, right and
// wrong ones.
func TestReadOperands(t *testing.T) {
	right := 0
	pieces := []string{"r0", "r7", "0", "65535", "r8", "7", "r", ""}
	for _, name := range append([]string{"", "nop", "Halt", "ADD", "r1", "5", "hal", "halts", "jmp"}, names...) {
		level := []string{name}
		for range 5 {
			var longer []string
			for _, s := range level {
				sameRead(t, s)
				if _, is := ofText(s); is {
					right++
				}
				for _, piece := range pieces {
					longer = append(longer, s+" "+piece)
				}
			}
			level = longer
		}
	}
	if want := 1 + 5*8 + 2*12 + 2*6 + 2*3; right != want {
		t.Errorf("the test is wrong: %d texts, want %d", right, want)
	}
}

// P12.2: the edges that the document names, each ErrForm with a zero
// instruction.
func TestReadWrong(t *testing.T) {
	digits := strings.Repeat("9", 400)
	for _, s := range []string{
		"", " ", "  ", "r", "r1", "0", "\x00", "\n",
		"nop", "Halt", "HALT", "hALT", "halts", "hal", "h", "Add r1 r2 r3", "ADD r1 r2 r3", "aDd r1 r2 r3", "TRAP 3", "add r1 r2 r3;",
		"halt 0", "halt r0", "halt r0 r0 r0 0", "add", "add r1", "add r1 r2", "add r1 r2 r3 r4", "add r1 r2 r3 0", "add r1 r2 r3 4",
		"imm", "imm r1", "imm 5", "imm r1 r2 5", "imm r1 5 5", "load r1 5", "load r1 r2", "load r1 r2 r3 5", "store r1 r2 5 5",
		"jump", "jump r1", "jump r1 5", "jump 5 5", "zero r1", "zero 5", "zero r1 r2 5", "trap", "trap r3", "trap 3 4", "less r1 r2 3",
		" halt", "halt ", " halt ", "halt\n", "\thalt", "halt\x00", "halt\r\n", "  add r1 r2 r3", " add r1 r2 r3", "add r1 r2 r3 ", "add r1 r2 r3  ",
		"add  r1 r2 r3", "add r1  r2 r3", "add r1 r2  r3", "add\tr1 r2 r3", "add r1\tr2 r3", "add r1\nr2 r3", "add r1 r2 r3\n", "add r1,r2,r3", "add r1, r2, r3", "add r1\u00a0r2 r3", "addr1 r2 r3", "add r1r2 r3", "addr1r2r3",
		"add 1 r2 r3", "add r1 2 r3", "add r1 r2 3", "add 1 2 3", "add r1 r2 r", "add r r r", "add r8 r2 r3", "add r1 r8 r3", "add r1 r2 r8", "add r1 r2 r9",
		"add r10 r2 r3", "add r1 r10 r3", "add r1 r2 r10", "add r1 r2 r-1", "add r-1 r2 r3", "add r1 r-0 r3", "add r+1 r2 r3", "add r1 r2 r+3", "add r01 r2 r3", "add r1 r2 r00", "add r1 r2 r07",
		"add R1 r2 r3", "add r1 R2 r3", "add rr1 r2 r3", "add x1 r2 r3", "add r1 r2 r3r", "add r 1 r2 r3", "add r1 r2 r 3", "add r1.0 r2 r3", "add r1 r2 r3_",
		"imm r1 r5", "imm 1 5", "imm 1 r5", "imm 5 r1", "zero r2 r0", "trap r65535", "load r1 r2 r3", "store 5 r1 r2",
		"imm r1 +5", "imm r1 -5", "imm r1 -0", "imm r1 +0", "imm r1 -1", "imm r1 -65535", "imm r1 -", "imm r1 +", "jump --1", "trap 1-", "trap 5+",
		"imm r1 00", "imm r1 01", "imm r1 007", "imm r1 000", "imm r1 065535", "imm r1 00000000000000000000000000000005", "jump 00", "trap 01", "zero r1 007",
		"imm r1 65536", "imm r1 65537", "imm r1 99999", "imm r1 100000", "imm r1 655350", "imm r1 131071", "imm r1 4294967295", "imm r1 4294967296", "imm r1 4294967301",
		"imm r1 9223372036854775807", "imm r1 9223372036854775808", "imm r1 18446744073709551615", "imm r1 18446744073709551616", "imm r1 18446744073709551621", "imm r1 -9223372036854775808", "imm r1 -9223372036854775809",
		"imm r1 " + digits, "jump -" + digits, "add r" + digits + " r2 r3", "trap 1" + strings.Repeat("0", 100000), "trap " + strings.Repeat("0", 100000),
		"add r18446744073709551617 r2 r3", "add r4294967297 r2 r3", "add r1 r257 r3",
		"imm r1 0x5", "imm r1 0b1", "imm r1 0o7", "imm r1 5_0", "imm r1 5.0", "imm r1 5e0", "imm r1 1e3", "imm r1 ", "imm r1 a", "imm r1 5a", "imm r1 a5", "imm r1 '5'", "imm r1 NaN", "imm r1 Inf",
		"\xff", "\xff\xfe", "halt\xff", "\xffhalt", "add r\xff r2 r3", "imm r1 \xf0\x9f", "imm r1 5\x80", "\xef\xbb\xbfhalt", "imm r1 \u0665", "imm r1 \uff15", "imm r\u0661 5", "add r1 r2 r\u00b3", "h\u0430lt", "\u212aalt",
		strings.Repeat(" ", 100000), strings.Repeat("halt ", 10000), strings.Repeat("a", 100000), "halt" + strings.Repeat(" ", 100000), "add" + strings.Repeat(" r1", 10000),
		"halt halt", "halt;", "halt //", "; halt", "imm r1 5; halt", "2 r1 r2 r3", "53506",
	} {
		if i, e := isa.Read(s); i != (api.Instr{}) || e != api.ErrForm {
			t.Errorf("Read(%.100q) = %+v, %d, want a zero instruction, ErrForm", s, i, e)
		}
		sameRead(t, s)
	}
}

// P12.2: the texts of all operations with one byte removed, put in or replaced,
// which may make it that of another instruction; every byte is tried.
func TestReadWithAnotherByte(t *testing.T) {
	right := 0
	for _, s := range []string{"halt", "imm r7 65535", "imm r0 0", "add r1 r2 r3", "sub r0 r0 r0", "and r7 r7 r7", "xor r4 r5 r6", "load r1 r2 10", "load r3 r6 60006", "store r0 r7 999", "jump 65534", "jump 1", "zero r2 6553", "less r7 r0 r3", "trap 0", "trap 12"} {
		var others []string
		for n := range len(s) + 1 {
			for b := range 256 {
				others = append(others, s[:n]+string([]byte{byte(b)})+s[n:])
				if n < len(s) {
					others = append(others, s[:n]+string([]byte{byte(b)})+s[n+1:])
				}
			}
			others = append(others, s[:n], s[n:])
			if n < len(s) {
				others = append(others, s[:n]+s[n+1:])
			}
		}
		for _, other := range others {
			sameRead(t, other)
			if _, is := ofText(other); is {
				right++
			}
		}
	}
	if right < 500 {
		t.Errorf("only %d of these were texts", right)
	}
}

// P12.2: all numbers of up to six digits or so as an Imm, with and without
// zeros ahead; and as a register.
func TestReadNumbers(t *testing.T) {
	for n := range 140000 {
		sameRead(t, "trap "+strconv.Itoa(n))
	}
	for n := range 1200 {
		for _, form := range []string{"jump %02d", "jump %05d", "jump %d", "jump -%d", "jump +%d", "imm r%d 0", "add r0 r0 r%d", "load r0 r%02d 0", "zero r%d 1", "jump %x", "jump %o"} {
			sameRead(t, fmt.Sprintf(form, n))
		}
	}
}

// P12.3: Word and Of, and Text and Read, are inverse to each other, for all
// registers with many an Imm, and for each Imm; no two words are the same, and
// no two texts.
func TestInverse(t *testing.T) {
	words, texts := map[uint64]bool{}, map[string]bool{}
	back := func(i api.Instr) {
		w, e := isa.Word(i)
		s, e2 := isa.Text(i)
		if e != api.OK || e2 != api.OK || words[w] || texts[s] {
			t.Fatalf("Word(%+v) = %d, %d, Text %q, %d; there ahead: %v, %v", i, w, e, s, e2, words[w], texts[s])
		}
		words[w], texts[s] = true, true
		x, e := isa.Of(w)
		y, e2 := isa.Read(s)
		if x != i || y != i || e != api.OK || e2 != api.OK {
			t.Fatalf("%+v: Of(%d) = %+v, %d, Read(%q) = %+v, %d", i, w, x, e, s, y, e2)
		}
	}
	eachWith([]int{0, 1, 9, 10, 99, 100, 255, 256, 999, 1000, 9999, 10000, 32767, 32768, 65534, 65535}, back)
	eachWith([]int{7, 77, 777, 7777}, func(i api.Instr) {
		if strings.HasSuffix(operands(i.Op), "I") {
			back(i)
		}
	})
	for imm := range 65536 {
		i := api.Instr{Op: []int{api.OpImm, api.OpLoad, api.OpStore, api.OpJump, api.OpZero, api.OpTrap}[imm%6], Imm: imm}
		if w, e := isa.Word(i); e != api.OK || !words[w] {
			back(i)
		}
	}
}

// P12.3: each Imm of each operation that has one.
func TestEachImm(t *testing.T) {
	for _, i := range []api.Instr{{Op: api.OpImm, A: 6}, {Op: api.OpLoad, A: 1, B: 2}, {Op: api.OpStore, A: 2, B: 1}, {Op: api.OpJump}, {Op: api.OpZero, A: 7}, {Op: api.OpTrap}} {
		for imm := range 65536 {
			i.Imm = imm
			same(t, i)
		}
	}
}

// R4: an answer depends on the argument alone, whatever was asked ahead.
func TestSameAgain(t *testing.T) {
	for range 3 {
		same(t, api.Instr{Op: api.OpAdd, A: 1, B: 2, C: 3})
		same(t, api.Instr{Op: api.OpStore, A: 1, Imm: 5})
		same(t, api.Instr{Op: 12})
		sameRead(t, "add r1 r2 r8")
		sameRead(t, "halt ")
		sameOf(t, 12, api.Instr{}, false)
	}
}
