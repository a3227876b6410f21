package asid_test

import (
	"math"
	"slices"
	"testing"

	"trunnion/api"
	"trunnion/asid"
)

// edges are numbers around all bounds of a pool and of a Turn, and the ends of
// int. Cut to 32, 16, 8, 4 or 3 bits, many of them are right ones.
var edges = []int{math.MinInt, math.MinInt + 1, math.MinInt + 8, math.MinInt32, -1<<32 + 1, -65535, -256, -255, -9, -8, -7, -2, -1, 0, 1, 2, 3, 4, 7, 8, 9, 10, 15, 16, 17, 255, 256, 257, 258, 264, 65536, 65537, math.MaxInt32, 1 << 32, 1<<32 + 1, 1<<32 + 8, math.MaxInt - 7, math.MaxInt - 1, math.MaxInt}

// tag is a short form of one.
func tag(number, turn int) asid.Tag {
	return asid.Tag{Asid: number, Turn: turn}
}

// model is all that a pool must know, told by its history: every tag that Take
// has returned, in that order, and those of them that were given back.
type model struct {
	many  int
	taken []asid.Tag
	gone  map[asid.Tag]bool
}

// lives is what Lives must answer.
func (w *model) lives(t asid.Tag) bool {
	return slices.Contains(w.taken, t) && !w.gone[t]
}

// times is how often a number has been allocated, and held whether it is now.
func (w *model) times(number int) (times int, held bool) {
	for _, t := range w.taken {
		if t.Asid == number {
			times++
			held = held || !w.gone[t]
		}
	}
	return times, held
}

// left is what Left must answer.
func (w *model) left() int {
	return w.many - (len(w.taken) - len(w.gone))
}

// take is what Take must answer. It tries each count of allocations from 0 on,
// and for each the numbers from 1 on.
func (w *model) take() (asid.Tag, api.Errno) {
	for count := 0; w.left() > 0; count++ {
		for number := 1; number <= w.many; number++ {
			if times, held := w.times(number); !held && times == count {
				t := tag(number, count+1)
				w.taken = append(w.taken, t)
				return t, api.OK
			}
		}
	}
	return asid.Tag{}, api.ErrAsid
}

// back is what Back must answer.
func (w *model) back(t asid.Tag) api.Errno {
	if !w.lives(t) {
		return api.ErrNone
	}
	w.gone[t] = true
	return api.OK
}

// bench is a pool, and what it must know.
type bench struct {
	*testing.T
	p *asid.Pool
	w *model
}

// start is a new pool of so many numbers.
func start(t *testing.T, many int) *bench {
	t.Helper()
	p, e := asid.New(many)
	if p == nil || e != api.OK {
		t.Fatalf("New(%d) = %v, %d, want a pool, OK", many, p, e)
	}
	return &bench{T: t, p: p, w: &model{many: many, gone: map[asid.Tag]bool{}}}
}

// used is a pool whose numbers have been allocated so often each, and are all
// available.
func used(t *testing.T, many, often int) *bench {
	t.Helper()
	x := start(t, many)
	for turn := 1; turn <= often; turn++ {
		x.fill(turn)
		for number := range many {
			x.back(tag(number+1, turn), api.OK)
		}
	}
	return x
}

// fill takes all numbers, which must have been allocated equally often: each
// must get that Turn.
func (x *bench) fill(turn int) {
	x.Helper()
	for number := range x.w.many {
		x.take(tag(number+1, turn))
	}
}

// holds asks for Left, for the last of all tags, and for those that are near a
// number of the pool and near its last Turn.
func (x *bench) holds() {
	x.Helper()
	if got, want := x.p.Left(), x.w.left(); got != want {
		x.Fatalf("Left() = %d, want %d", got, want)
	}
	for _, t := range x.w.taken[max(0, len(x.w.taken)-40):] {
		x.lives(t)
		x.lives(tag(t.Turn, t.Asid))
	}
	for number := -1; number <= x.w.many+2; number++ {
		times, _ := x.w.times(number)
		for _, turn := range []int{-1, 0, 1, times - 1, times, times + 1} {
			x.lives(tag(number, turn))
		}
	}
}

// lives holds Lives of t against the model.
func (x *bench) lives(t asid.Tag) {
	x.Helper()
	if got, want := x.p.Lives(t), x.w.lives(t); got != want {
		x.Fatalf("Lives(%+v) = %v, want %v", t, got, want)
	}
}

// take calls Take, which must answer t, and holds all against the model.
func (x *bench) take(t asid.Tag) {
	x.Helper()
	if want, e := x.w.take(); want != t || e != api.OK {
		x.Fatalf("the test is wrong: Take: %+v or %+v, %d", t, want, e)
	}
	if got, e := x.p.Take(); got != t || e != api.OK {
		x.Fatalf("Take() = %+v, %d, want %+v, OK", got, e, t)
	}
	x.holds()
}

// takeNone calls Take, which must find no number, and holds all against the
// model.
func (x *bench) takeNone() {
	x.Helper()
	if want, e := x.w.take(); e != api.ErrAsid {
		x.Fatalf("the test is wrong: Take: none or %+v, %d", want, e)
	}
	if got, e := x.p.Take(); got != (asid.Tag{}) || e != api.ErrAsid {
		x.Fatalf("Take() = %+v, %d, want the zero tag, ErrAsid", got, e)
	}
	x.holds()
}

// back calls Back, which must answer want, and holds all against the model.
func (x *bench) back(t asid.Tag, want api.Errno) {
	x.Helper()
	if e := x.w.back(t); e != want {
		x.Fatalf("the test is wrong: Back(%+v): %d or %d", t, want, e)
	}
	if e := x.p.Back(t); e != want {
		x.Fatalf("Back(%+v) = %d, want %d", t, e, want)
	}
	x.holds()
}

// goesOn takes numbers until there are none left, then gives all back, and does
// so three times: this tells how often each number had been allocated before.
func (x *bench) goesOn() {
	x.Helper()
	for range 3 {
		for x.w.left() > 0 {
			want, _ := x.w.take()
			if got, e := x.p.Take(); got != want || e != api.OK {
				x.Fatalf("Take() = %+v, %d, want %+v, OK", got, e, want)
			}
		}
		x.takeNone()
		for _, t := range x.w.taken {
			if x.w.lives(t) {
				x.back(t, api.OK)
			}
		}
	}
}

// The document's example.
func TestExample(t *testing.T) {
	p, e := asid.New(2)
	if p == nil || e != api.OK {
		t.Fatalf("New(2) = %v, %d", p, e)
	}
	first, e := p.Take()
	if first != tag(1, 1) || e != api.OK {
		t.Errorf("Take() = %+v, %d, want number 1 with turn 1", first, e)
	}
	if second, e := p.Take(); second != tag(2, 1) || e != api.OK {
		t.Errorf("Take() = %+v, %d, want number 2 with turn 1", second, e)
	}
	if none, e := p.Take(); none != tag(0, 0) || e != api.ErrAsid {
		t.Errorf("Take() = %+v, %d, want ErrAsid", none, e)
	}
	if e := p.Back(first); e != api.OK {
		t.Errorf("Back(%+v) = %d, want OK", first, e)
	}
	if again, e := p.Take(); again != tag(1, 2) || e != api.OK {
		t.Errorf("Take() = %+v, %d, want number 1 with turn 2", again, e)
	}
}

// P10.1: a pool of 1 to 8 numbers, all of which are available.
func TestNew(t *testing.T) {
	for many := 1; many <= 8; many++ {
		p, e := asid.New(many)
		if p == nil || e != api.OK {
			t.Fatalf("New(%d) = %v, %d, want a pool, OK", many, p, e)
		}
		if got := p.Left(); got != many {
			t.Errorf("New(%d): Left() = %d, want %d", many, got, many)
		}
		start(t, many).goesOn()
	}
}

// P10.1: there is no pool of less than 1 number, nor of more than 8.
func TestNewOfWrongNumbers(t *testing.T) {
	wrong := 0
	for _, many := range edges {
		if many >= 1 && many <= 8 {
			continue
		}
		wrong++
		if p, e := asid.New(many); p != nil || e != api.ErrArg {
			t.Errorf("New(%d) = %v, %d, want nil, ErrArg", many, p, e)
		}
	}
	for many := -300; many <= 300; many++ {
		want := api.ErrArg
		if many >= 1 && many <= 8 {
			want = api.OK
		}
		if p, e := asid.New(many); e != want || (p == nil) != (want == api.ErrArg) {
			t.Errorf("New(%d) = %v, %d, want %d", many, p, e, want)
		}
	}
	if wrong < 30 {
		t.Errorf("only %d wrong numbers", wrong)
	}
}

// P10.1 and P10.2: nothing is allocated in a new pool, whatever is asked for.
func TestNewPoolHasNoTags(t *testing.T) {
	for many := 1; many <= 8; many++ {
		x := start(t, many)
		for _, number := range edges {
			for _, turn := range edges {
				x.lives(tag(number, turn))
				if e := x.p.Back(tag(number, turn)); e != api.ErrNone {
					t.Fatalf("Back(%+v) = %d, want ErrNone", tag(number, turn), e)
				}
			}
		}
		x.holds()
		x.goesOn()
	}
}

// P10.2: Take until there is none left, and several times more; Left behind
// each.
func TestTakeAll(t *testing.T) {
	for many := 1; many <= 8; many++ {
		p := start(t, many).p
		for number := 1; number <= many; number++ {
			if got, e := p.Take(); got != tag(number, 1) || e != api.OK {
				t.Fatalf("of %d: Take() = %+v, %d, want %+v, OK", many, got, e, tag(number, 1))
			}
			if got := p.Left(); got != many-number {
				t.Fatalf("of %d: Left() = %d after %d, want %d", many, got, number, many-number)
			}
		}
		for range 3 {
			if got, e := p.Take(); got != tag(0, 0) || e != api.ErrAsid {
				t.Fatalf("of %d: Take() = %+v, %d, want the zero tag, ErrAsid", many, got, e)
			}
			if got := p.Left(); got != 0 {
				t.Fatalf("of %d: Left() = %d, want 0", many, got)
			}
		}
	}
}

// P10.2: a Take that finds no number changes nothing: what is given back then
// gets the Turn that it would have got without it.
func TestTakeOfNoneChangesNothing(t *testing.T) {
	for many := 1; many <= 8; many++ {
		for number := 1; number <= many; number++ {
			x := used(t, many, 2)
			x.fill(3)
			for range 5 {
				x.takeNone()
			}
			x.back(tag(number, 3), api.OK)
			x.take(tag(number, 4))
			x.takeNone()
			x.goesOn()
		}
	}
}

// P10.2: of numbers that have been allocated equally often, never or several
// times, the least one is allocated.
func TestTakeAmongEquals(t *testing.T) {
	for many := 1; many <= 8; many++ {
		for often := range 7 {
			x := used(t, many, often)
			x.fill(often + 1)
			x.takeNone()
		}
	}
}

// P10.2: in whichever order numbers are given back, the least one of them is
// allocated.
func TestTakeAfterEachOrder(t *testing.T) {
	for many := 1; many <= 6; many++ {
		for _, order := range orders(many) {
			x := start(t, many)
			x.fill(1)
			for _, number := range order {
				x.back(tag(number, 1), api.OK)
			}
			x.fill(2)
		}
	}
}

// orders are all orders of the numbers 1 to many.
func orders(many int) [][]int {
	if many == 0 {
		return [][]int{nil}
	}
	var out [][]int
	for _, order := range orders(many - 1) {
		for at := range many {
			out = append(out, slices.Insert(slices.Clone(order), at, many))
		}
	}
	return out
}

// P10.2: for each set of numbers that are given back, these alone are
// allocated, from the least on, with the Turn 2.
func TestTakeOfEachSet(t *testing.T) {
	for set := range 256 {
		x := start(t, 8)
		x.fill(1)
		for number := 8; number >= 1; number-- {
			if set>>(number-1)&1 == 1 {
				x.back(tag(number, 1), api.OK)
			}
		}
		for number := 1; number <= 8; number++ {
			if set>>(number-1)&1 == 1 {
				x.take(tag(number, 2))
			}
		}
		x.takeNone()
	}
}

// P10.2: the number that has been allocated less often than the others is
// allocated, wherever it is; then again the least one.
func TestTakeOfTheOneAllocatedLessOften(t *testing.T) {
	for many := 2; many <= 8; many++ {
		for number := 1; number <= many; number++ {
			x := start(t, many)
			x.fill(1)
			for other := 1; other <= many; other++ {
				if other != number {
					x.back(tag(other, 1), api.OK)
					x.take(tag(other, 2))
					x.back(tag(other, 2), api.OK)
				}
			}
			// It is not available yet: the least one of the others is next.
			least := 1
			if number == 1 {
				least = 2
			}
			x.take(tag(least, 3))
			x.back(tag(least, 3), api.OK)
			x.back(tag(number, 1), api.OK)
			x.take(tag(number, 2))
			if x.w.left() > 1 {
				x.take(tag(leastBut(many, number, least), 3))
			}
			x.goesOn()
		}
	}
}

// leastBut is the least number up to many that is neither of both; 0: there is
// none.
func leastBut(many, one, other int) int {
	for number := 1; number <= many; number++ {
		if number != one && number != other {
			return number
		}
	}
	return 0
}

// P10.2: the number allocated the fewest times is not available: the one with
// the fewest times among the available ones is allocated, though a lesser
// number is available too.
func TestTakeIfTheLeastIsNotAvailable(t *testing.T) {
	x := start(t, 4)
	x.fill(1)
	x.back(tag(1, 1), api.OK)
	x.take(tag(1, 2))
	x.back(tag(1, 2), api.OK)
	x.take(tag(1, 3))
	x.back(tag(2, 1), api.OK)
	x.take(tag(2, 2))
	x.back(tag(1, 3), api.OK)
	x.back(tag(2, 2), api.OK)
	x.take(tag(2, 3)) // allocated twice, as 1 was thrice; 3 and 4 were once, but are allocated
	x.take(tag(1, 4))
	x.takeNone()
	x.back(tag(1, 4), api.OK)
	x.back(tag(4, 1), api.OK)
	x.take(tag(4, 2))
	x.take(tag(1, 5))
	x.takeNone()
	x.goesOn()
}

// P10.2: each order of how often four numbers have been allocated, by 0 to 3
// times more than the least one, is followed.
func TestTakeOfEachOrder(t *testing.T) {
	for mix := range 256 {
		x := start(t, 4)
		x.fill(1)
		var last [4]int
		for n := range 4 {
			last[n] = 1 + mix>>(2*n)&3
			for turn := 1; turn < last[n]; turn++ {
				x.back(tag(n+1, turn), api.OK)
				x.take(tag(n+1, turn+1))
			}
		}
		for n := range 4 {
			x.back(tag(n+1, last[n]), api.OK)
		}
		for count := 1; count <= 4; count++ {
			for n := range 4 {
				if last[n] == count {
					x.take(tag(n+1, count+1))
				}
			}
		}
		x.takeNone()
	}
}

// P10.2: the Turn of a number that is allocated for the second time, the third
// time, and so on, alone and among others that stay allocated.
func TestTurns(t *testing.T) {
	for many := 1; many <= 8; many++ {
		for number := 1; number <= many; number++ {
			x := start(t, many)
			x.fill(1)
			for turn := 2; turn <= 20; turn++ {
				x.back(tag(number, turn-1), api.OK)
				x.take(tag(number, turn))
			}
			for other := 1; other <= many; other++ {
				if other != number {
					x.back(tag(other, 1), api.OK)
					x.take(tag(other, 2))
				}
			}
		}
	}
}

// P10.2: a Turn is counted beyond what 8 or 16 bits hold, and no tag of before
// is allocated then.
func TestGreatTurns(t *testing.T) {
	p := start(t, 1).p
	for turn := 1; turn <= 200000; turn++ {
		if got, e := p.Take(); got != tag(1, turn) || e != api.OK {
			t.Fatalf("Take() = %+v, %d, want %+v, OK", got, e, tag(1, turn))
		}
		for _, past := range []int{1, turn - 1, turn - 256, turn - 65536, turn - 131072} {
			if past != turn && (p.Lives(tag(1, past)) || p.Back(tag(1, past)) != api.ErrNone) {
				t.Fatalf("at turn %d, %+v is allocated", turn, tag(1, past))
			}
		}
		if e := p.Back(tag(1, turn)); e != api.OK {
			t.Fatalf("Back(%+v) = %d, want OK", tag(1, turn), e)
		}
	}
}

// P10.2: Back of each tag of a full pool, and of it once more; Left behind
// each.
func TestBack(t *testing.T) {
	for many := 1; many <= 5; many++ {
		for _, order := range orders(many) {
			x := start(t, many)
			x.fill(1)
			for n, number := range order {
				for _, want := range []api.Errno{api.OK, api.ErrNone, api.ErrNone} {
					x.back(tag(number, 1), want)
					if got := x.p.Left(); got != n+1 {
						t.Fatalf("Left() = %d after %d were given back", got, n+1)
					}
				}
			}
			x.goesOn()
		}
	}
}

// P10.2: Back of a tag that is not allocated is an error and changes nothing:
// with another Turn, given back already, never returned, and of a number beyond
// the pool.
func TestBackOfATagThatIsNotAllocated(t *testing.T) {
	for many := 1; many <= 8; many++ {
		for _, wrong := range []asid.Tag{tag(1, 1), tag(1, 2), tag(1, 4), tag(1, 0), tag(1, -3), tag(many, 2), tag(many, 4), tag(0, 0), tag(0, 3), tag(-1, 3), tag(many+1, 3), tag(many+1, 0), tag(many+1, 1), tag(9, 3), tag(9, 1), tag(257, 3), tag(3, 257)} {
			x := used(t, many, 2)
			x.fill(3)
			x.back(wrong, api.ErrNone)
			x.back(wrong, api.ErrNone)
			x.takeNone()
			x.goesOn()
		}
		x := used(t, many, 2)
		x.fill(3)
		x.back(tag(many, 3), api.OK)
		for turn := range 6 {
			x.back(tag(many, turn), api.ErrNone)
		}
		x.take(tag(many, 4))
		x.back(tag(many, 3), api.ErrNone)
		x.back(tag(many, 4), api.OK)
		x.back(tag(many, 4), api.ErrNone)
		x.goesOn()
	}
}

// P10.2: Back and Lives of all pairs of edges, also the ends of int, for pools
// with tags of several turns.
func TestTagsOfEdges(t *testing.T) {
	for many := 1; many <= 8; many++ {
		for _, often := range []int{0, 1, 2, 6} {
			x := used(t, many, often)
			x.fill(often + 1)
			for _, number := range edges {
				for _, turn := range edges {
					wrong := tag(number, turn)
					if is := number >= 1 && number <= many && turn == often+1; x.p.Lives(wrong) != is {
						t.Fatalf("Lives(%+v) = %v, want %v", wrong, !is, is)
					} else if is {
						continue
					}
					if e := x.p.Back(wrong); e != api.ErrNone {
						t.Fatalf("Back(%+v) = %d, want ErrNone", wrong, e)
					}
				}
			}
			x.takeNone()
			x.goesOn()
		}
	}
}

// P10.2 and P10.3: Lives of a tag that is allocated, that was given back, and
// that was given back and whose number has been allocated again.
func TestLives(t *testing.T) {
	for many := 1; many <= 8; many++ {
		for number := 1; number <= many; number++ {
			p := start(t, many).p
			for range many {
				p.Take()
			}
			for turn := 1; turn <= 5; turn++ {
				now := tag(number, turn)
				if !p.Lives(now) || !p.Lives(now) {
					t.Fatalf("Lives(%+v) = false", now)
				}
				if e := p.Back(now); e != api.OK || p.Lives(now) {
					t.Fatalf("Back(%+v) = %d, and then Lives is %v", now, e, p.Lives(now))
				}
				if p.Lives(tag(number, turn+1)) {
					t.Fatalf("Lives(%+v) = true before Take", tag(number, turn+1))
				}
				if next, e := p.Take(); next != tag(number, turn+1) || e != api.OK {
					t.Fatalf("Take() = %+v, %d, want %+v, OK", next, e, tag(number, turn+1))
				}
				for past := -1; past <= turn; past++ {
					if p.Lives(tag(number, past)) {
						t.Fatalf("Lives(%+v) = true in turn %d", tag(number, past), turn+1)
					}
				}
			}
		}
	}
}

// R4: pools don't share anything, and to ask changes nothing.
func TestPoolsAreApart(t *testing.T) {
	x, y, z := start(t, 3), start(t, 3), start(t, 8)
	x.take(tag(1, 1))
	x.back(tag(1, 1), api.OK)
	y.take(tag(1, 1))
	z.fill(1)
	x.take(tag(2, 1))
	y.back(tag(2, 1), api.ErrNone)
	for range 100 {
		x.p.Left()
		x.p.Lives(tag(2, 1))
		x.p.Lives(tag(3, 1))
	}
	x.take(tag(3, 1))
	y.take(tag(2, 1))
	z.back(tag(3, 1), api.OK)
	x.take(tag(1, 2))
	x.takeNone()
	x.holds()
	y.holds()
	z.holds()
	x.goesOn()
	y.goesOn()
	z.goesOn()
}

// P10.1 to P10.3: every sequence of 9 calls to a pool of 1 number, of 7 to one
// of 2, and of 6 to one of 3: Take, and Back of each number with its last Turn
// and with the one before.
func TestEverySequence(t *testing.T) {
	for n, length := range []int{9, 7, 6} {
		many := n + 1
		choices, sequences := 1+2*many, 1
		for range length {
			sequences *= choices
		}
		for sequence := range sequences {
			x := start(t, many)
			for n, rest := 0, sequence; n < length; n, rest = n+1, rest/choices {
				x.choose(rest % choices)
			}
			if sequence%31 == 0 {
				x.holds()
				x.goesOn()
			}
		}
	}
}

// choose makes the call with that number: 0 is Take; then two for each number
// of the pool: Back with its last Turn, and with the one before.
func (x *bench) choose(call int) {
	x.Helper()
	if call == 0 {
		want, wantE := x.w.take()
		if got, e := x.p.Take(); got != want || e != wantE {
			x.Fatalf("after %+v: Take() = %+v, %d, want %+v, %d", x.w.taken, got, e, want, wantE)
		}
	} else {
		number := (call + 1) / 2
		times, _ := x.w.times(number)
		t := tag(number, times-call%2)
		want := x.w.back(t)
		if e := x.p.Back(t); e != want {
			x.Fatalf("after %+v: Back(%+v) = %d, want %d", x.w.taken, t, e, want)
		}
		x.lives(t)
	}
	if got, want := x.p.Left(), x.w.left(); got != want {
		x.Fatalf("after %+v: Left() = %d, want %d", x.w.taken, got, want)
	}
}

// dice gives numbers by a rule; it is the rule's state.
type dice uint64

// roll is the next number below many.
func (d *dice) roll(many int) int {
	*d = *d*6364136223846793005 + 1442695040888963407
	return int(*d >> 33 % dice(many))
}

// P10.1 to P10.3: long mixtures of calls to pools of each size, held against
// the model.
func TestMixtures(t *testing.T) {
	answers := map[api.Errno]int{}
	for many := 1; many <= 8; many++ {
		x, d := start(t, many), dice(many)
		for range 1200 {
			// By turns, more is given back than taken, as much, and less: so
			// the pool is empty, and full, again and again.
			if d.roll(8) < 2+len(x.w.taken)/20%3*2 {
				want, wantE := x.w.take()
				if got, e := x.p.Take(); got != want || e != wantE {
					t.Fatalf("of %d: Take() = %+v, %d, want %+v, %d", many, got, e, want, wantE)
				}
				answers[wantE]++
			} else {
				number := d.roll(many+2) - d.roll(20)/19
				times, _ := x.w.times(number)
				old := tag(number, times-d.roll(12)/9)
				want := x.w.back(old)
				if e := x.p.Back(old); e != want {
					t.Fatalf("of %d: Back(%+v) = %d, want %d", many, old, e, want)
				}
				answers[want]++
			}
			x.holds()
		}
		x.goesOn()
	}
	for _, e := range []api.Errno{api.OK, api.ErrAsid, api.ErrNone} {
		if answers[e] < 400 {
			t.Errorf("only %d calls answered %d", answers[e], e)
		}
	}
}

// P10.3, by itself: no tag is returned twice, no two allocated tags have the
// same number, each is a number of the pool, and a tag that was given back is
// never allocated again.
func TestTagsAreNeverReturnedTwice(t *testing.T) {
	for many := 1; many <= 8; many++ {
		p, d := start(t, many).p, dice(100+many)
		returned, held := map[asid.Tag]bool{}, []asid.Tag{}
		for range 3000 {
			if d.roll(2) == 0 {
				got, e := p.Take()
				if (e == api.OK) != (len(held) < many) {
					t.Fatalf("of %d, with %d allocated: Take() = %+v, %d", many, len(held), got, e)
				}
				if e != api.OK {
					continue
				}
				if returned[got] || got.Asid < 1 || got.Asid > many || slices.ContainsFunc(held, func(h asid.Tag) bool { return h.Asid == got.Asid }) {
					t.Fatalf("of %d, with %+v allocated: Take() = %+v", many, held, got)
				}
				returned[got] = true
				held = append(held, got)
			} else if len(held) > 0 {
				n := d.roll(len(held))
				if e := p.Back(held[n]); e != api.OK {
					t.Fatalf("Back(%+v) = %d, want OK", held[n], e)
				}
				held = slices.Delete(held, n, n+1)
			}
			if got := p.Left(); got != many-len(held) {
				t.Fatalf("of %d, with %+v allocated: Left() = %d", many, held, got)
			}
			if d.roll(20) == 0 {
				for old := range returned {
					if p.Lives(old) != slices.Contains(held, old) {
						t.Fatalf("with %+v allocated: Lives(%+v) = %v", held, old, p.Lives(old))
					}
				}
			}
		}
	}
}
