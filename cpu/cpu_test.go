package cpu_test

import (
	"fmt"
	"maps"
	"math"
	"math/big"
	"slices"
	"strings"
	"testing"

	"trunnion/api"
	"trunnion/buddy"
	"trunnion/cpu"
	"trunnion/isa"
	"trunnion/memory"
	"trunnion/mmu"
	"trunnion/tables"
	"trunnion/tlb"
)

// edges are numbers around all bounds of an address and of a register. Cut to
// 16, 32 or 63 bits, many of them are 0, or small.
var edges = []uint64{0, 1, 2, 3, 7, 8, 255, 256, 32767, 32768, 65534, 65535, 65536, 65537, 65540, 131071, 131072, 1<<31 - 1, 1 << 31, 1<<32 - 1, 1 << 32, 1<<32 + 1, 1<<40 + 65535, 1<<48 - 1, 1 << 48, math.MaxInt64 - 1, math.MaxInt64, 1 << 63, 1<<63 + 1, 1<<63 + 65535, math.MaxUint64 - 65536, math.MaxUint64 - 65535, math.MaxUint64 - 1, math.MaxUint64}

// refusals are errors that a space may return: all there are, and other ones.
var refusals = []api.Errno{api.ErrArg, api.ErrNone, api.ErrFull, api.ErrTwice, api.ErrState, api.ErrMem, api.ErrAsid, api.ErrGap, api.ErrPerm, api.ErrFault, api.ErrForm, api.ErrQuota, api.ErrHalt, api.ErrTrap, 15, 99, 256, 65536, 1 << 32, -1, -13, -14, math.MinInt, math.MaxInt}

// mixed are registers that all differ, from each other and in each 16 bits.
var mixed = [8]uint64{0x8000_1234_0000_F00D, 7, 0x0123_4567_89AB_CDEF, 65535, math.MaxUint64, 0, 1 << 63, 0xFFFF_0000_0F0F_3333}

// access is one that a space was asked for; w is what was to be stored.
type access struct {
	store bool
	addr  int
	w     uint64
}

// space has words at all addresses, but refuses some of them. It notes what it
// is asked for, and answers a word beside an error, which nobody may use.
type space struct {
	t       *testing.T
	words   []uint64
	noLoad  map[int]api.Errno
	noStore map[int]api.Errno
	asked   []access
}

func (s *space) Load(addr int) (uint64, api.Errno) {
	s.asked = append(s.asked, access{addr: addr})
	if addr < 0 || addr > 65535 {
		s.t.Fatalf("Load(%d)", addr)
	}
	if e, is := s.noLoad[addr]; is {
		return 0x5A5A_0000_0505, e
	}
	return s.words[addr], api.OK
}

func (s *space) Store(addr int, w uint64) api.Errno {
	s.asked = append(s.asked, access{true, addr, w})
	if addr < 0 || addr > 65535 {
		s.t.Fatalf("Store(%d, %d)", addr, w)
	}
	if e, is := s.noStore[addr]; is {
		return e
	}
	s.words[addr] = w
	return api.OK
}

// blank is a space that has only zeros, and refuses nothing.
func blank(t *testing.T) *space {
	return &space{t: t, words: make([]uint64, 65536), noLoad: map[int]api.Errno{}, noStore: map[int]api.Errno{}}
}

// with is a space with instructions from address 0 on.
func with(t *testing.T, texts ...string) *space {
	t.Helper()
	s := blank(t)
	for n, text := range texts {
		s.words[n] = word(t, text)
	}
	return s
}

// copied is a space with the same words, which refuses the same.
func (s *space) copied() *space {
	return &space{t: s.t, words: slices.Clone(s.words), noLoad: maps.Clone(s.noLoad), noStore: maps.Clone(s.noStore)}
}

// word is that of an instruction.
func word(t *testing.T, text string) uint64 {
	t.Helper()
	i, e := isa.Read(text)
	w, e2 := isa.Word(i)
	if e != api.OK || e2 != api.OK {
		t.Fatalf("the test is wrong: there is no instruction %q", text)
	}
	return w
}

// modulo is a number modulo 2^bits, by numbers without an end.
func modulo(n *big.Int, bits uint) uint64 {
	return new(big.Int).Mod(n, new(big.Int).Lsh(big.NewInt(1), bits)).Uint64()
}

// number is n as one without an end.
func number(n uint64) *big.Int { return new(big.Int).SetUint64(n) }

// computes is what R[A] must become, of R[B] and R[C].
func computes(name string, b, c uint64) uint64 {
	x, y, out := number(b), number(c), new(big.Int)
	switch name {
	case "add":
		return modulo(out.Add(x, y), 64)
	case "sub":
		return modulo(out.Sub(x, y), 64)
	case "and":
		return modulo(out.And(x, y), 64)
	case "xor":
		return modulo(out.Xor(x, y), 64)
	case "less":
		if x.Cmp(y) < 0 {
			return 1
		}
	}
	return 0
}

// near is the address that is many behind n.
func near(n uint64, many int) int {
	return int(modulo(new(big.Int).Add(number(n), big.NewInt(int64(many))), 16))
}

// outcome is what a Step returns and does.
type outcome struct {
	r     api.Regs
	call  int
	e     api.Errno
	asked []access
}

// must is what a Step must return and do.
func (s *space) must(r api.Regs) outcome {
	pc := near(r.PC, 0)
	o := outcome{r: r, asked: []access{{addr: pc}}}
	if e, is := s.noLoad[pc]; is {
		o.e = e
		return o
	}
	i, e := isa.Of(s.words[pc])
	if e != api.OK {
		o.e = api.ErrForm
		return o
	}
	s.execute(i, &o)
	return o
}

// execute adds to o what an instruction must do.
func (s *space) execute(i api.Instr, o *outcome) {
	text, _ := isa.Text(i)
	name, _, _ := strings.Cut(text, " ")
	before, addr := o.r, near(o.r.R[i.B], i.Imm)
	o.r.PC = uint64(near(o.r.PC, 1))
	switch name {
	case "halt":
		o.r, o.e = before, api.ErrHalt
	case "trap":
		o.call, o.e = i.Imm, api.ErrTrap
	case "imm":
		o.r.R[i.A] = uint64(i.Imm)
	case "load":
		o.asked = append(o.asked, access{addr: addr})
		o.r.R[i.A] = s.words[addr]
		if e, is := s.noLoad[addr]; is {
			o.r, o.e = before, e
		}
	case "store":
		o.asked = append(o.asked, access{true, addr, o.r.R[i.A]})
		if e, is := s.noStore[addr]; is {
			o.r, o.e = before, e
		}
	case "jump":
		o.r.PC = uint64(i.Imm)
	case "zero":
		if o.r.R[i.A] == 0 {
			o.r.PC = uint64(i.Imm)
		}
	default:
		o.r.R[i.A] = computes(name, o.r.R[i.B], o.r.R[i.C])
	}
}

// step calls Step, and holds all that it returns and does against what it must.
func (s *space) step(r *api.Regs) outcome {
	s.t.Helper()
	before, want := *r, s.must(*r)
	s.asked = nil
	call, e := cpu.Step(r, s)
	got := outcome{*r, call, e, s.asked}
	if got.r != want.r || call != want.call || e != want.e || !slices.Equal(s.asked, want.asked) {
		i, _ := isa.Of(s.words[near(before.PC, 0)])
		s.t.Fatalf("Step with %x, of %+v: %+v, want %+v", before, i, got, want)
	}
	return got
}

// one is what Step returns and does with an instruction at PC, held against
// what it must, and against e.
func (s *space) one(r api.Regs, text string, e api.Errno) outcome {
	s.t.Helper()
	s.words[near(r.PC, 0)] = word(s.t, text)
	got := s.step(&r)
	if got.e != e {
		s.t.Fatalf("%s with %x: error %d, want %d", text, r, got.e, e)
	}
	return got
}

// run calls Run, which must return that, with those registers then.
func run(t *testing.T, r *api.Regs, s cpu.Space, most, done, call int, e api.Errno, then api.Regs) {
	t.Helper()
	d, c, got := cpu.Run(r, s, most)
	if d != done || c != call || got != e || *r != then {
		t.Fatalf("Run(r, s, %d) = %d, %d, %d, want %d, %d, %d; r is %v, want %v", most, d, c, got, done, call, e, *r, then)
	}
}

// The document's example.
func TestExample(t *testing.T) {
	s := with(t, "imm r1 5", "add r1 r1 r1", "halt")
	run(t, &api.Regs{}, s, 50, 2, 0, api.ErrHalt, api.Regs{R: [8]uint64{1: 10}, PC: 2})
}

// The uses that the README shows.
func TestReadme(t *testing.T) {
	s := with(t, "imm r1 5", "add r1 r1 r1", "trap 3", "halt")
	r := &api.Regs{}
	if call, e := cpu.Step(r, s); call != 0 || e != api.OK || *r != (api.Regs{R: [8]uint64{1: 5}, PC: 1}) {
		t.Fatalf("Step = %d, %d; r is %v", call, e, *r)
	}
	then := api.Regs{R: [8]uint64{1: 10}, PC: 3}
	run(t, r, s, 50, 1, 3, api.ErrTrap, then)
	run(t, r, s, 50, 0, 0, api.ErrHalt, then)
}

// P13.1: each operation, written out: the registers and PC before and behind
// it, the number that it calls, its error, and what it asks of the space.
func TestEachOperation(t *testing.T) {
	before := api.Regs{R: [8]uint64{3, 10, 12, 7, 0, 500, 1 << 40, math.MaxUint64}, PC: 100}
	fetched := access{addr: 100}
	for _, c := range []struct {
		text  string
		a     int // the register that changes; -1: none
		w     uint64
		pc    uint64
		call  int
		e     api.Errno
		asked []access
	}{
		{"halt", -1, 0, 100, 0, api.ErrHalt, nil},
		{"imm r3 65535", 3, 65535, 101, 0, api.OK, nil},
		{"imm r7 0", 7, 0, 101, 0, api.OK, nil},
		{"add r4 r1 r2", 4, 22, 101, 0, api.OK, nil},
		{"sub r4 r2 r1", 4, 2, 101, 0, api.OK, nil},
		{"sub r4 r1 r2", 4, math.MaxUint64 - 1, 101, 0, api.OK, nil},
		{"and r4 r1 r2", 4, 8, 101, 0, api.OK, nil},
		{"xor r4 r1 r2", 4, 6, 101, 0, api.OK, nil},
		{"less r4 r1 r2", 4, 1, 101, 0, api.OK, nil},
		{"less r5 r2 r1", 5, 0, 101, 0, api.OK, nil},
		{"load r1 r5 20", 1, 77, 101, 0, api.OK, []access{{addr: 520}}},
		{"store r1 r5 21", -1, 0, 101, 0, api.OK, []access{{true, 521, 10}}},
		{"jump 9", -1, 0, 9, 0, api.OK, nil},
		{"zero r4 9", -1, 0, 9, 0, api.OK, nil},
		{"zero r0 9", -1, 0, 101, 0, api.OK, nil},
		{"trap 0", -1, 0, 101, 0, api.ErrTrap, nil},
		{"trap 9", -1, 0, 101, 9, api.ErrTrap, nil},
	} {
		s, want := blank(t), before
		s.words[520] = 77
		want.PC = c.pc
		if c.a >= 0 {
			want.R[c.a] = c.w
		}
		got := s.one(before, c.text, c.e)
		if got.r != want || got.call != c.call || !slices.Equal(got.asked, append([]access{fetched}, c.asked...)) {
			t.Errorf("%s: %+v, want %v, %d, %v", c.text, got, want, c.call, c.asked)
		}
		if c.text == "store r1 r5 21" && s.words[521] != 10 {
			t.Errorf("%s: the word is %d", c.text, s.words[521])
		}
	}
}

// P13.1: the operations with A, B and C each of the registers: all the same,
// all different, and register 0, which is as any other.
func TestEachRegister(t *testing.T) {
	s := blank(t)
	for a := range 8 {
		for b := range 8 {
			for c := range 8 {
				for _, name := range []string{"add", "sub", "and", "xor", "less"} {
					r := api.Regs{R: mixed, PC: uint64(a + 8*b + 64*c)}
					got := s.one(r, fmt.Sprintf("%s r%d r%d r%d", name, a, b, c), api.OK)
					r.R[a], r.PC = computes(name, mixed[b], mixed[c]), r.PC+1
					if got.r != r {
						t.Fatalf("%s r%d r%d r%d: %x, want %x", name, a, b, c, got.r, r)
					}
				}
			}
			for _, imm := range []int{0, 1, 77, 32768, 65535} {
				s.one(api.Regs{R: mixed, PC: 5}, fmt.Sprintf("load r%d r%d %d", a, b, imm), api.OK)
				s.one(api.Regs{R: mixed, PC: 6}, fmt.Sprintf("store r%d r%d %d", a, b, imm), api.OK)
			}
		}
		for _, imm := range []int{0, 1, 77, 32768, 65535} {
			s.one(api.Regs{R: mixed, PC: 7}, fmt.Sprintf("imm r%d %d", a, imm), api.OK)
			s.one(api.Regs{R: mixed, PC: 7}, fmt.Sprintf("zero r%d %d", a, imm), api.OK)
		}
	}
	r := api.Regs{R: [8]uint64{6, 6, 6, 6, 6, 6, 6, 6}}
	for text, want := range map[string]uint64{"add r0 r0 r0": 12, "sub r0 r0 r0": 0, "and r0 r0 r0": 6, "xor r0 r0 r0": 0, "less r0 r0 r0": 0} {
		if got := s.one(r, text, api.OK); got.r.R != [8]uint64{want, 6, 6, 6, 6, 6, 6, 6} {
			t.Errorf("%s: %v", text, got.r)
		}
	}
}

// P13.1: a load or store whose A is its B: the address is of the register as it
// was.
func TestAddressInTheSameRegister(t *testing.T) {
	s := blank(t)
	s.words[310], s.words[311] = 311, 8
	if got := s.one(api.Regs{R: [8]uint64{2: 300}}, "load r2 r2 10", api.OK); got.r.R[2] != 311 {
		t.Errorf("load r2 r2 10: %v", got.r)
	}
	s.one(api.Regs{R: [8]uint64{2: 300}}, "store r2 r2 11", api.OK)
	if s.words[311] != 300 || s.words[310] != 311 {
		t.Errorf("store r2 r2 11: %v", s.words[310:312])
	}
}

// P13.1: a PC at each edge, up to the greatest uint64: which word is loaded,
// and what PC is behind each operation.
func TestEachPC(t *testing.T) {
	for _, c := range []struct {
		pc   uint64
		addr int
		next uint64
	}{
		{0, 0, 1}, {1, 1, 2}, {65534, 65534, 65535}, {65535, 65535, 0}, {65536, 0, 1}, {65537, 1, 2}, {131070, 65534, 65535}, {131071, 65535, 0}, {131072, 0, 1},
		{1<<32 - 1, 65535, 0}, {1 << 32, 0, 1}, {1<<32 + 7, 7, 8}, {1<<63 - 1, 65535, 0}, {1 << 63, 0, 1}, {1<<63 + 9, 9, 10},
		{math.MaxUint64 - 65536, 65535, 0}, {math.MaxUint64 - 65535, 0, 1}, {math.MaxUint64 - 1, 65534, 65535}, {math.MaxUint64, 65535, 0},
	} {
		r := api.Regs{R: [8]uint64{300, 1, 2, 3}, PC: c.pc}
		for _, text := range []string{"imm r1 5", "add r1 r2 r3", "sub r1 r2 r3", "and r1 r2 r3", "xor r1 r2 r3", "load r1 r0 5", "store r1 r0 5", "zero r1 5", "less r1 r2 r3"} {
			if got := blank(t).one(r, text, api.OK); got.r.PC != c.next || got.asked[0].addr != c.addr {
				t.Errorf("%s at PC %d: %+v, want PC %d", text, c.pc, got, c.next)
			}
		}
		for _, text := range []string{"jump 300", "zero r4 300"} {
			if got := blank(t).one(r, text, api.OK); got.r.PC != 300 || got.asked[0].addr != c.addr {
				t.Errorf("%s at PC %d: %+v, want PC 300", text, c.pc, got)
			}
		}
		if got := blank(t).one(r, "trap 300", api.ErrTrap); got.r.PC != c.next || got.call != 300 {
			t.Errorf("trap at PC %d: %+v, want PC %d", c.pc, got, c.next)
		}
		if got := blank(t).one(r, "halt", api.ErrHalt); got.r != r {
			t.Errorf("halt at PC %d: %+v", c.pc, got)
		}
	}
	s := with(t, "jump 65535")
	s.words[65535] = word(t, "imm r1 1")
	run(t, &api.Regs{}, s, 5, 5, 0, api.OK, api.Regs{R: [8]uint64{1: 1}, PC: 65535})
}

// P13.1, wrong inputs: words that are no instructions, at several PCs, with any
// registers: ErrForm, and r stays as it was.
func TestNoInstruction(t *testing.T) {
	words := []uint64{12, 13, 14, 15, 255, 256, 1 << 8, 1<<8 | 2<<11, 1 << 17, 1 << 24, 5 << 24, 1<<24 + 2, 1 + 1<<11, 1 + 1<<14, 8 + 1<<8, 11 + 1<<8, 6 + 1<<14, 7 + 1<<17, 9 + 1<<11, 2 + 1<<40, 1 + 1<<40, 11 + 1<<63, 1 << 40, 1 << 63, 1<<63 - 1, 1<<32 + 12, math.MaxUint64, math.MaxUint64 - 255}
	for low := range uint64(256) {
		if low >= 12 {
			words = append(words, low, low|3<<8, low|65535<<24)
		}
	}
	for _, w := range words {
		for _, pc := range []uint64{0, 77, 65535, 65536, 1<<63 + 5, math.MaxUint64} {
			for _, regs := range [][8]uint64{{}, mixed} {
				s, r := blank(t), api.Regs{R: regs, PC: pc}
				s.words[near(pc, 0)] = w
				if got := s.step(&r); got.e != api.ErrForm || got.call != 0 || r != (api.Regs{R: regs, PC: pc}) || len(got.asked) != 1 {
					t.Fatalf("%d at PC %d: %+v", w, pc, got)
				}
				run(t, &r, s, 9, 0, 0, api.ErrForm, r)
			}
		}
	}
}

// P13.1, wrong inputs: the space refuses the load of the instruction, with any
// error, also ErrTrap and ErrHalt: r stays as it was, and nothing is called.
func TestRefusedInstruction(t *testing.T) {
	for _, e := range refusals {
		for _, pc := range []uint64{0, 77, 65535, 65536, 1<<63 + 5, math.MaxUint64} {
			for _, text := range []string{"halt", "trap 9", "imm r1 5", "jump 5", "store r1 r2 5"} {
				s, r := blank(t), api.Regs{R: mixed, PC: pc}
				s.noLoad[near(pc, 0)] = e
				if got := s.one(r, text, e); got.r != r || got.call != 0 || len(got.asked) != 1 {
					t.Fatalf("error %d at PC %d: %+v", e, pc, got)
				}
				run(t, &r, s, 9, 0, 0, e, r)
			}
		}
	}
}

// P13.1: add, sub, and, xor and less of all pairs of edges, 0 and the greatest
// uint64 among them; arithmetic is modulo 2^64, and no number is negative.
func TestArithmetic(t *testing.T) {
	s := blank(t)
	for _, name := range []string{"add", "sub", "and", "xor", "less"} {
		for _, b := range edges {
			for _, c := range edges {
				r := api.Regs{R: [8]uint64{1: 99, 2: b, 3: c}}
				if got := s.one(r, name+" r1 r2 r3", api.OK); got.r != (api.Regs{R: [8]uint64{1: computes(name, b, c), 2: b, 3: c}, PC: 1}) {
					t.Fatalf("%s of %d and %d: %v", name, b, c, got.r)
				}
				s.one(r, name+" r2 r2 r3", api.OK)
				s.one(r, name+" r3 r2 r3", api.OK)
			}
		}
	}
	const most = math.MaxUint64
	for _, c := range []struct {
		name       string
		b, c, want uint64
	}{
		{"add", 0, 0, 0}, {"add", most, 0, most}, {"add", 0, most, most}, {"add", most, 1, 0}, {"add", most, most, most - 1}, {"add", 1 << 63, 1 << 63, 0},
		{"sub", 0, 0, 0}, {"sub", 0, 1, most}, {"sub", 0, most, 1}, {"sub", most, 0, most}, {"sub", most, most, 0}, {"sub", 1 << 63, 1, 1<<63 - 1}, {"sub", 5, 7, most - 1},
		{"and", 0, 0, 0}, {"and", 0, most, 0}, {"and", most, 0, 0}, {"and", most, most, most}, {"and", most, 1 << 63, 1 << 63}, {"and", 12, 10, 8},
		{"xor", 0, 0, 0}, {"xor", 0, most, most}, {"xor", most, 0, most}, {"xor", most, most, 0}, {"xor", most, 1 << 63, 1<<63 - 1}, {"xor", 12, 10, 6},
		{"less", 0, 0, 0}, {"less", 0, 1, 1}, {"less", 1, 0, 0}, {"less", 0, most, 1}, {"less", most, 0, 0}, {"less", most, most, 0}, {"less", most - 1, most, 1},
		{"less", 1<<63 - 1, 1 << 63, 1}, {"less", 1 << 63, 1<<63 - 1, 0}, {"less", 1 << 63, 0, 0}, {"less", 0, 1 << 63, 1}, {"less", 1 << 63, 1 << 63, 0}, {"less", 1 << 63, 1<<63 + 1, 1}, {"less", most, 1 << 63, 0}, {"less", 1 << 32, 1, 0}, {"less", 1, 1 << 32, 1},
	} {
		if got := s.one(api.Regs{R: [8]uint64{1: 99, 2: c.b, 3: c.c}}, c.name+" r1 r2 r3", api.OK); got.r.R[1] != c.want {
			t.Errorf("%s of %d and %d: %d, want %d", c.name, c.b, c.c, got.r.R[1], c.want)
		}
	}
}

// P13.1: load and store at R[B] + Imm, also past 65535 and past 2^64: one word,
// at the sum modulo 65536.
func TestAddresses(t *testing.T) {
	for _, base := range edges {
		s := blank(t)
		for _, imm := range []int{0, 1, 2, 15, 16, 32767, 32768, 65534, 65535} {
			addr := near(base, imm)
			r := api.Regs{R: [8]uint64{1: 0xABCD, 2: base}, PC: uint64(near(base, imm+9))}
			s.words[addr] = 1000 + uint64(imm)
			got := s.one(r, fmt.Sprintf("load r3 r2 %d", imm), api.OK)
			if got.r.R[3] != 1000+uint64(imm) || got.asked[1] != (access{addr: addr}) {
				t.Fatalf("load at %d + %d: %+v", base, imm, got)
			}
			got = s.one(r, fmt.Sprintf("store r1 r2 %d", imm), api.OK)
			if s.words[addr] != 0xABCD || got.asked[1] != (access{true, addr, 0xABCD}) {
				t.Fatalf("store at %d + %d: %+v", base, imm, got)
			}
		}
	}
	for _, c := range []struct {
		base uint64
		imm  int
		addr int
	}{
		{0, 0, 0}, {0, 65535, 65535}, {65535, 0, 65535}, {65535, 1, 0}, {1, 65535, 0}, {65535, 65535, 65534}, {65536, 5, 5}, {1 << 32, 65535, 65535}, {1<<63 + 1, 65535, 0},
		{math.MaxUint64, 0, 65535}, {math.MaxUint64, 1, 0}, {math.MaxUint64, 65535, 65534}, {math.MaxUint64 - 1, 2, 0}, {math.MaxUint64 - 65535, 65535, 65535}, {math.MaxUint64 - 65534, 65535, 0},
	} {
		s := blank(t)
		s.words[c.addr] = 42
		r := api.Regs{R: [8]uint64{2: c.base}, PC: 777}
		if got := s.one(r, fmt.Sprintf("load r3 r2 %d", c.imm), api.OK); got.r.R[3] != 42 {
			t.Errorf("load at %d + %d: %+v, want the word at %d", c.base, c.imm, got, c.addr)
		}
	}
}

// P13.1: each word that is stored is loaded as it was, all 64 bits of it.
func TestWords(t *testing.T) {
	for _, w := range edges {
		s := blank(t)
		r := s.one(api.Regs{R: [8]uint64{1: w}}, "store r1 r0 90", api.OK).r
		if got := s.one(r, "load r2 r0 90", api.OK); got.r.R != [8]uint64{1: w, 2: w} || s.words[90] != w {
			t.Errorf("the word %d: %+v", w, got)
		}
	}
}

// P13.1: a program is words: an instruction may load itself, and store over
// itself and the next one, which is what is executed then.
func TestInstructionsAreWords(t *testing.T) {
	s := with(t, "load r1 r0 0", "imm r2 0", "store r2 r0 4", "store r1 r0 3", "imm r3 3")
	load := word(t, "load r1 r0 0")
	run(t, &api.Regs{}, s, 50, 4, 0, api.ErrHalt, api.Regs{R: [8]uint64{1: load}, PC: 4})
	if s.words[3] != load {
		t.Errorf("the word at 3 is %d, want %d", s.words[3], load)
	}
}

// P13.1, wrong inputs: a load that the space refuses, with any error, also
// ErrTrap and ErrHalt, for A and B the same and different: r stays as it was.
func TestRefusedLoad(t *testing.T) {
	for _, e := range refusals {
		for _, text := range []string{"load r1 r2 10", "load r2 r2 10", "load r0 r2 10", "load r7 r2 10"} {
			for _, pc := range []uint64{0, 65535, 65536, math.MaxUint64} {
				s, r := blank(t), api.Regs{R: mixed, PC: pc}
				s.noLoad[near(mixed[2], 10)] = e
				if got := s.one(r, text, e); got.r != r || got.call != 0 || len(got.asked) != 2 {
					t.Fatalf("%s, refused with %d: %+v", text, e, got)
				}
				run(t, &r, s, 9, 0, 0, e, r)
			}
		}
	}
}

// P13.1, wrong inputs: a store that the space refuses, with any error: r stays
// as it was, and nothing else is stored.
func TestRefusedStore(t *testing.T) {
	for _, e := range refusals {
		for _, text := range []string{"store r1 r2 10", "store r2 r2 10", "store r0 r2 10", "store r7 r2 10"} {
			for _, pc := range []uint64{0, 65535, 65536, math.MaxUint64} {
				s, r := blank(t), api.Regs{R: mixed, PC: pc}
				s.noStore[near(mixed[2], 10)] = e
				s.words[near(pc, 0)] = word(t, text)
				words := slices.Clone(s.words)
				if got := s.one(r, text, e); got.r != r || got.call != 0 || len(got.asked) != 2 {
					t.Fatalf("%s, refused with %d: %+v", text, e, got)
				}
				run(t, &r, s, 9, 0, 0, e, r)
				if !slices.Equal(s.words, words) {
					t.Fatalf("%s, refused with %d: a word has changed", text, e)
				}
			}
		}
	}
}

// P13.1: an address may be loaded but not stored, or the other way round; each
// is asked for alone.
func TestRefusedOneWay(t *testing.T) {
	s, r := blank(t), api.Regs{R: [8]uint64{1: 5}}
	s.noStore[10], s.noLoad[11] = api.ErrPerm, api.ErrFault
	s.words[10] = 8
	s.one(r, "load r2 r0 10", api.OK)
	s.one(r, "store r1 r0 11", api.OK)
	s.one(r, "store r1 r0 10", api.ErrPerm)
	s.one(r, "load r2 r0 11", api.ErrFault)
	if s.words[10] != 8 || s.words[11] != 5 {
		t.Errorf("the words are %v", s.words[10:12])
	}
	// A jump goes to an address that is not loaded before the next Step.
	if got := s.one(r, "jump 11", api.OK); got.r.PC != 11 {
		t.Errorf("jump 11: %+v", got)
	}
}

// P13.1: a jump sets PC to Imm, each there is; one to itself stays there.
func TestJump(t *testing.T) {
	s := blank(t)
	for imm := range 65536 {
		r := api.Regs{R: mixed, PC: 40}
		got := s.one(r, fmt.Sprintf("jump %d", imm), api.OK)
		if r.PC = uint64(imm); got.r != r {
			t.Fatalf("jump %d: %+v", imm, got)
		}
	}
	for _, pc := range []uint64{0, 5, 65535, 65536, 65541, 1<<63 + 5, math.MaxUint64} {
		s, addr := blank(t), pc%65536
		s.words[addr] = word(t, fmt.Sprintf("jump %d", addr))
		run(t, &api.Regs{R: mixed, PC: pc}, s, 1000, 1000, 0, api.OK, api.Regs{R: mixed, PC: addr})
		if len(s.asked) != 1000 {
			t.Errorf("%d words were loaded by 1000 jumps", len(s.asked))
		}
	}
}

// P13.1: zero sets PC to Imm if all of R[A] is 0; else PC goes on.
func TestZero(t *testing.T) {
	s := blank(t)
	for a := range 8 {
		for _, w := range edges {
			for _, imm := range []int{0, 1, 40, 41, 42, 65535} {
				r := api.Regs{R: mixed, PC: 40}
				r.R[a] = w
				got := s.one(r, fmt.Sprintf("zero r%d %d", a, imm), api.OK)
				if r.PC = 41; w == 0 {
					r.PC = uint64(imm)
				}
				if got.r != r {
					t.Fatalf("zero r%d %d with %d: %+v", a, imm, w, got)
				}
			}
		}
	}
	s = with(t, "zero r1 0")
	run(t, &api.Regs{PC: 65536}, s, 9, 9, 0, api.OK, api.Regs{})
	run(t, &api.Regs{R: [8]uint64{1: 1}, PC: 65536}, s, 9, 1, 0, api.ErrHalt, api.Regs{R: [8]uint64{1: 1}, PC: 1})
}

// P13.1: a trap calls its Imm, each there is; PC goes on, and the registers
// stay.
func TestTrap(t *testing.T) {
	s := blank(t)
	for imm := range 65536 {
		r := api.Regs{R: mixed, PC: 40}
		got := s.one(r, fmt.Sprintf("trap %d", imm), api.ErrTrap)
		if r.PC = 41; got.r != r || got.call != imm {
			t.Fatalf("trap %d: %+v", imm, got)
		}
	}
}

// P13.1: a halt may be repeated: r stays as it is, also a PC past 65535.
func TestHalt(t *testing.T) {
	for _, pc := range edges {
		s, r := blank(t), api.Regs{R: mixed, PC: pc}
		for range 3 {
			if got := s.step(&r); got.e != api.ErrHalt || r != (api.Regs{R: mixed, PC: pc}) || len(got.asked) != 1 {
				t.Fatalf("halt at %d: %+v", pc, got)
			}
		}
	}
}

// P13.2: most of each kind: below 1, one, just as many Steps as the program
// has, one less and one more, and the ends of int. The other registers tell how
// many there were.
func TestMost(t *testing.T) {
	for length := range 6 {
		var texts []string
		for range length {
			texts = append(texts, "add r1 r1 r2")
		}
		for _, end := range []struct {
			text string
			call int
			e    api.Errno
			pc   uint64
		}{{"halt", 0, api.ErrHalt, 0}, {"trap 0", 0, api.ErrTrap, 1}, {"trap 6", 6, api.ErrTrap, 1}, {"load r1 r0 60", 0, api.ErrFault, 0}, {"store r1 r0 61", 0, api.ErrPerm, 0}} {
			for _, most := range []int{math.MinInt, -65536, -2, -1, 0, 1, 2, length - 1, length, length + 1, length + 2, 100, 65536, 1 << 32, math.MaxInt} {
				s := with(t, append(slices.Clone(texts), end.text)...)
				s.noLoad[60], s.noStore[61] = api.ErrFault, api.ErrPerm
				done, call, e, pc := length, end.call, end.e, uint64(length)+end.pc
				if most <= length {
					done, call, e = max(most, 0), 0, api.OK
					pc = uint64(done)
				}
				run(t, &api.Regs{R: [8]uint64{2: 3}}, s, most, done, call, e, api.Regs{R: [8]uint64{1: 3 * uint64(done), 2: 3}, PC: pc})
			}
		}
	}
}

// P13.2: with most below 1 nothing is done: no word is loaded, and r stays, also
// where a Step would be refused, and a PC past 65535.
func TestMostBelowOne(t *testing.T) {
	for _, most := range []int{0, -1, -65536, math.MinInt32, math.MinInt + 1, math.MinInt} {
		for _, text := range []string{"halt", "trap 5", "imm r1 5"} {
			s := with(t, text)
			r := api.Regs{R: mixed, PC: 65536}
			run(t, &r, s, most, 0, 0, api.OK, r)
			s.noLoad[0] = api.ErrFault
			run(t, &r, s, most, 0, 0, api.OK, r)
			s.noLoad, s.words[0] = nil, 12
			run(t, &r, s, most, 0, 0, api.OK, r)
			if s.asked != nil {
				t.Fatalf("Run with most %d: %+v", most, s.asked)
			}
		}
	}
}

// P13.2: a trap in the middle ends the Run, and the next one goes on behind it;
// done counts only the Steps that returned OK. A halt ends each Run.
func TestRunGoesOnBehindTraps(t *testing.T) {
	s := with(t, "imm r1 1", "trap 7", "trap 8", "imm r2 2", "imm r3 3", "trap 65535", "imm r4 4", "halt", "imm r5 5")
	r := &api.Regs{}
	run(t, r, s, 9, 1, 7, api.ErrTrap, api.Regs{R: [8]uint64{1: 1}, PC: 2})
	run(t, r, s, 1, 0, 8, api.ErrTrap, api.Regs{R: [8]uint64{1: 1}, PC: 3})
	run(t, r, s, 2, 2, 0, api.OK, api.Regs{R: [8]uint64{1: 1, 2: 2, 3: 3}, PC: 5})
	run(t, r, s, 0, 0, 0, api.OK, api.Regs{R: [8]uint64{1: 1, 2: 2, 3: 3}, PC: 5})
	run(t, r, s, 1, 0, 65535, api.ErrTrap, api.Regs{R: [8]uint64{1: 1, 2: 2, 3: 3}, PC: 6})
	for done := 1; done >= 0; done-- {
		run(t, r, s, 9, done, 0, api.ErrHalt, api.Regs{R: [8]uint64{1: 1, 2: 2, 3: 3, 4: 4}, PC: 7})
	}
}

// P13.2: whatever a Step returns but OK ends a Run, with any error of the space
// at an instruction, a load or a store; and what was refused goes on when it is
// not refused any more.
func TestRunStopsAtErrors(t *testing.T) {
	for _, e := range refusals {
		s := with(t, "imm r1 70", "load r2 r1 0", "store r1 r1 1", "imm r3 3", "halt")
		s.noLoad[70], s.noStore[71], s.noLoad[3] = e, e, e
		r := &api.Regs{}
		run(t, r, s, 9, 1, 0, e, api.Regs{R: [8]uint64{1: 70}, PC: 1})
		run(t, r, s, 9, 0, 0, e, api.Regs{R: [8]uint64{1: 70}, PC: 1})
		delete(s.noLoad, 70)
		run(t, r, s, 9, 1, 0, e, api.Regs{R: [8]uint64{1: 70}, PC: 2})
		delete(s.noStore, 71)
		run(t, r, s, 9, 1, 0, e, api.Regs{R: [8]uint64{1: 70}, PC: 3})
		delete(s.noLoad, 3)
		run(t, r, s, 9, 1, 0, api.ErrHalt, api.Regs{R: [8]uint64{1: 70, 3: 3}, PC: 4})
		s.words[0] = 12
		r.PC = 0
		run(t, r, s, 9, 0, 0, api.ErrForm, api.Regs{R: [8]uint64{1: 70, 3: 3}})
	}
}

// programs are such that use all operations; each ends with a halt or a trap,
// or never.
var programs = map[string][]string{
	"product":   {"imm r1 123", "imm r2 45", "imm r3 1", "zero r2 7", "add r4 r4 r1", "sub r2 r2 r3", "jump 3", "store r4 r0 100", "halt"},
	"fibonacci": {"imm r1 0", "imm r2 1", "imm r3 50", "imm r4 1", "zero r3 11", "add r5 r1 r2", "and r1 r2 r2", "and r2 r5 r5", "sub r3 r3 r4", "jump 4", "halt", "trap 77"},
	"countdown": {"imm r6 1", "imm r5 9", "less r4 r0 r5", "zero r4 8", "store r5 r5 200", "sub r5 r5 r6", "xor r7 r7 r5", "jump 2", "trap 1", "jump 0"},
	"copied":    {"imm r1 0", "imm r2 1", "imm r3 12", "load r4 r1 0", "store r4 r1 12", "add r1 r1 r2", "less r5 r1 r3", "zero r5 9", "jump 3", "halt", "halt", "jump 2"},
	"changing":  {"load r1 r0 3", "imm r2 256", "add r1 r1 r2", "imm r3 7", "store r1 r0 3", "jump 2"},
}

// P13.2: programs with loops, with their results written out.
func TestPrograms(t *testing.T) {
	s := with(t, programs["product"]...)
	run(t, &api.Regs{}, s, 10000, 3+4*45+2, 0, api.ErrHalt, api.Regs{R: [8]uint64{1: 123, 3: 1, 4: 123 * 45}, PC: 8})
	if s.words[100] != 123*45 {
		t.Errorf("the product is %d", s.words[100])
	}
	s = with(t, programs["fibonacci"]...)
	run(t, &api.Regs{}, s, 10000, 4+6*50+1, 77, api.ErrTrap, api.Regs{R: [8]uint64{1: 12586269025, 2: 20365011074, 4: 1, 5: 20365011074}, PC: 12})
	s = with(t, programs["countdown"]...)
	run(t, &api.Regs{}, s, 10000, 2+6*9+2, 1, api.ErrTrap, api.Regs{R: [8]uint64{6: 1, 7: 8 ^ 7 ^ 6 ^ 5 ^ 4 ^ 3 ^ 2 ^ 1}, PC: 9})
	if !slices.Equal(s.words[200:211], []uint64{0, 1, 2, 3, 4, 5, 6, 7, 8, 9, 0}) {
		t.Errorf("the words are %v", s.words[200:211])
	}
	s = with(t, programs["copied"]...)
	run(t, &api.Regs{}, s, 10000, 3+6*12-1, 0, api.ErrHalt, api.Regs{R: [8]uint64{1: 12, 2: 1, 3: 12, 4: word(t, "jump 2")}, PC: 9})
	if !slices.Equal(s.words[:12], s.words[12:24]) {
		t.Errorf("the copy is %v", s.words[12:24])
	}
	// It makes its imm r3 7 one of r4, r5, r6 and r7, and then no instruction.
	s = with(t, programs["changing"]...)
	run(t, &api.Regs{}, s, 10000, 2+4*5+1, 0, api.ErrForm, api.Regs{R: [8]uint64{1: word(t, "imm r7 7") + 512, 2: 256, 3: 7, 4: 7, 5: 7, 6: 7, 7: 7}, PC: 3})
}

// starts are registers with which the programs are tried.
var starts = []api.Regs{{}, {R: mixed, PC: 65536}}

// P13.3: each program in two parts, at each place, and in one: the sums of done
// are the same, and all else is.
func TestTwoParts(t *testing.T) {
	for name, texts := range programs {
		for _, start := range starts {
			for _, most := range []int{0, 1, 2, 7, 60, 400} {
				s, r := with(t, texts...), start
				done, call, e := cpu.Run(&r, s, most)
				for first := range min(most, done+1) + 1 {
					parts, q := with(t, texts...), start
					d, c, e1 := cpu.Run(&q, parts, first)
					if e1 == api.OK {
						var more int
						more, c, e1 = cpu.Run(&q, parts, most-first)
						d += more
					}
					if d != done || c != call || e1 != e || q != r || !slices.Equal(parts.asked, s.asked) {
						t.Fatalf("%s: %d and %d steps: %d, %d, %d, %v; in one: %d, %d, %d, %v", name, first, most-first, d, c, e1, q, done, call, e, r)
					}
				}
			}
		}
	}
}

// P13.2 and P13.3: a Run is its Steps, one by one.
func TestRunIsItsSteps(t *testing.T) {
	for name, texts := range programs {
		for _, start := range starts {
			s, r := with(t, texts...), start
			done, call, e := cpu.Run(&r, s, 500)
			steps, q := with(t, texts...), start
			for range done {
				if got := steps.step(&q); got.e != api.OK || got.call != 0 {
					t.Fatalf("%s: %+v", name, got)
				}
			}
			if e != api.OK {
				if got := steps.step(&q); got.e != e || got.call != call {
					t.Fatalf("%s: %+v, want %d, %d", name, got, call, e)
				}
			}
			if q != r || !slices.Equal(steps.words, s.words) {
				t.Fatalf("%s: %v and %v", name, q, r)
			}
		}
	}
}

// player is a space of two functions.
type player struct {
	load  func(addr int) (uint64, api.Errno)
	store func(addr int, w uint64) api.Errno
}

func (p player) Load(addr int) (uint64, api.Errno)  { return p.load(addr) }
func (p player) Store(addr int, w uint64) api.Errno { return p.store(addr, w) }

// P13.3: all that is known of a space is the words that it loads: one that
// plays the same words, whatever the addresses, makes the same of the registers
// and is to store the same.
func TestOnlyTheWordsThatAreLoaded(t *testing.T) {
	for name, texts := range programs {
		for _, start := range starts {
			var loaded []uint64
			s, r := with(t, texts...), start
			done, call, e := cpu.Run(&r, player{func(addr int) (uint64, api.Errno) {
				w, e := s.Load(addr)
				loaded = append(loaded, w)
				return w, e
			}, s.Store}, 300)
			var asked []access
			q := start
			run(t, &q, player{func(addr int) (uint64, api.Errno) {
				if asked = append(asked, access{addr: addr}); len(loaded) == 0 {
					t.Fatalf("%s: one load too many", name)
				}
				w := loaded[0]
				loaded = loaded[1:]
				return w, api.OK
			}, func(addr int, w uint64) api.Errno {
				asked = append(asked, access{true, addr, w})
				return api.OK
			}}, 300, done, call, e, r)
			if !slices.Equal(asked, s.asked) {
				t.Errorf("%s: another access", name)
			}
		}
	}
}

// P13.3: words that a program doesn't load may be any, and be refused.
func TestWordsThatAreNotLoaded(t *testing.T) {
	for name, texts := range programs {
		for _, start := range starts {
			s, r := with(t, texts...), start
			other := with(t, texts...)
			done, call, e := cpu.Run(&r, s, 300)
			used := map[int]bool{}
			for _, a := range s.asked {
				used[a.addr] = true
			}
			for addr := range other.words {
				if !used[addr] {
					other.words[addr] = uint64(addr)*0x9E37_79B9_7F4A_7C15 + 11
					other.noLoad[addr], other.noStore[addr] = api.ErrFault, api.ErrPerm
				}
			}
			q := start
			run(t, &q, other, 300, done, call, e, r)
			if !slices.Equal(other.asked, s.asked) {
				t.Errorf("%s: another access", name)
			}
		}
	}
}

// result is what a Run returns, and the registers then.
type result struct {
	done, call int
	e          api.Errno
	r          api.Regs
}

// P13.3 and R4: programs that are executed by turns, some steps each, are as
// each of them alone; one of them is there twice.
func TestByTurns(t *testing.T) {
	names := append(slices.Sorted(maps.Keys(programs)), "product")
	for _, start := range starts {
		turns := func(s *space, r *api.Regs, turn int) result {
			done, call, e := cpu.Run(r, s, turn%5)
			return result{done, call, e, *r}
		}
		spaces, regs, results := make([]*space, len(names)), make([]api.Regs, len(names)), make([][]result, len(names))
		for n, name := range names {
			spaces[n], regs[n] = with(t, programs[name]...), start
		}
		for turn := range 300 {
			for n := range names {
				results[n] = append(results[n], turns(spaces[n], &regs[n], turn+n))
			}
		}
		for n, name := range names {
			s, r := with(t, programs[name]...), start
			for turn, want := range results[n] {
				if got := turns(s, &r, turn+n); got != want {
					t.Fatalf("%s: alone %v, by turns %v", name, got, want)
				}
			}
			if !slices.Equal(s.words, spaces[n].words) {
				t.Errorf("%s: the words differ", name)
			}
		}
	}
}

// dice gives numbers by a rule; it is the rule's state.
type dice uint64

// roll is the next number below many.
func (d *dice) roll(many int) int {
	*d = *d*6364136223846793005 + 1442695040888963407
	return int(*d >> 33 % dice(many))
}

// pick is one of them.
func pick[T any](d *dice, list []T) T { return list[d.roll(len(list))] }

// word is that of an instruction of any kind or, one time in 20, another one.
func (d *dice) word() uint64 {
	const a, b, c, imm = 7 << 8, 7 << 11, 7 << 14, 65535 << 24
	operands := [12]uint64{0, a | imm, a | b | c, a | b | c, a | b | c, a | b | c, a | b | imm, a | b | imm, imm, a | imm, a | b | c, imm}
	bits, op := uint64(d.roll(1<<31))<<33^uint64(d.roll(1<<31)), d.roll(12)
	if d.roll(20) == 0 {
		return bits >> d.roll(64)
	}
	return uint64(op) + bits&operands[op]
}

// regs are registers, most of them near an edge, and a PC, which may be past
// 65535.
func (d *dice) regs() api.Regs {
	var r api.Regs
	for n := range r.R {
		r.R[n] = pick(d, edges) + uint64(d.roll(3))
	}
	r.PC = uint64(d.roll(65536)) + uint64(d.roll(2))*pick(d, edges)
	return r
}

// P13.1 to P13.3: long mixtures: spaces of any words, which refuse some of
// them, with any registers; each Step against the model, and all of them
// against a Run.
func TestMixtures(t *testing.T) {
	counts := map[api.Errno]int{}
	for seed := range 30 {
		d, s := dice(seed), blank(t)
		for addr := range s.words {
			s.words[addr] = d.word()
		}
		for range 3000 {
			s.noLoad[d.roll(65536)] = pick(&d, refusals)
			s.noStore[d.roll(65536)] = pick(&d, refusals)
		}
		twin := s.copied()
		for range 1000 {
			s.burst(twin, d.regs(), counts)
		}
		if !slices.Equal(s.words, twin.words) {
			t.Fatalf("the words of Steps and of Runs differ")
		}
	}
	for _, e := range append([]api.Errno{api.OK}, refusals...) {
		if counts[e] < 50 {
			t.Errorf("only %d steps returned %d", counts[e], e)
		}
	}
}

// burst executes some steps, as long as they are OK, and a Run on a twin, where
// it must do the same.
func (s *space) burst(twin *space, r api.Regs, counts map[api.Errno]int) {
	s.t.Helper()
	const most = 30
	q, done, last := r, 0, outcome{}
	for done < most {
		last = s.step(&r)
		counts[last.e]++
		if last.e != api.OK {
			break
		}
		done++
	}
	run(s.t, &q, twin, most, done, last.call, last.e, r)
}

// translated is a space of a unit.
type translated struct{ *mmu.Unit }

func (s translated) Load(addr int) (uint64, api.Errno)  { return s.Unit.Load(addr, 0) }
func (s translated) Store(addr int, w uint64) api.Errno { return s.Unit.Store(addr, w, 0) }

// P13.1: with a space that is a unit with pages, of which some are missing or
// may not be written, a program has the errors of these.
func TestTranslatedSpace(t *testing.T) {
	m, _ := memory.New(16)
	b, _ := buddy.New(m, 8)
	p, e := tables.New(m, b)
	u, e2 := mmu.New(m, tlb.New())
	if e != api.OK || e2 != api.OK || p.Map(0, 3, false) != api.OK || p.Map(4095, 5, true) != api.OK || u.Use(p.Root(), 1) != api.OK {
		t.Fatal("the test is wrong")
	}
	for n, text := range []string{"imm r1 9", "store r1 r0 65535", "load r2 r0 65535", "imm r3 1", "sub r3 r0 r3", "load r4 r3 0", "store r1 r0 15", "load r5 r0 16", "jump 16"} {
		m.Write(16*3+n, word(t, text))
	}
	s, r := translated{u}, &api.Regs{}
	run(t, r, s, 50, 6, 0, api.ErrPerm, api.Regs{R: [8]uint64{1: 9, 2: 9, 3: math.MaxUint64, 4: 9}, PC: 6})
	if w, _ := m.Read(16*5 + 15); w != 9 {
		t.Errorf("the word is %d", w)
	}
	r.PC++
	run(t, r, s, 50, 0, 0, api.ErrFault, api.Regs{R: [8]uint64{1: 9, 2: 9, 3: math.MaxUint64, 4: 9}, PC: 7})
	r.PC++
	run(t, r, s, 50, 1, 0, api.ErrFault, api.Regs{R: [8]uint64{1: 9, 2: 9, 3: math.MaxUint64, 4: 9}, PC: 16})
}
