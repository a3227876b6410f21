package owners_test

import (
	"math"
	"slices"
	"testing"

	"trunnion/api"
	"trunnion/owners"
)

// edges are numbers around all bounds of frames, of an owner, of a quota and
// of a range, and the ends of int. Cut to 32, 16 or 8 bits, many of them are
// right ones.
var edges = []int{math.MinInt, math.MinInt + 1, math.MinInt + 8, math.MinInt + 256, math.MinInt32, -1 << 16, -257, -256, -255, -9, -8, -2, -1, 0, 1, 2, 7, 8, 9, 10, 99, 100, 101, 128, 254, 255, 256, 257, 258, 264, 512, 1 << 16, 1<<16 + 1, math.MaxInt32, 1 << 32, 1<<32 + 1, math.MaxInt - 256, math.MaxInt - 8, math.MaxInt - 1, math.MaxInt}

// model tells who must own which frame, and each owner's quota: a frame that
// is not in the map has no owner.
type model struct {
	frames int
	owner  map[int]int
	quota  [9]int
}

// of is what Of must answer.
func (w *model) of(frame int) int {
	if who, is := w.owner[frame]; is {
		return who
	}
	return -1
}

// count is what Count must answer.
func (w *model) count(who int) int {
	many := 0
	for _, owner := range w.owner {
		if owner == who {
			many++
		}
	}
	return many
}

// wrong tells whether a range, or an owner, is one that there is not.
func (w *model) wrong(frame, many, who int) bool {
	if many < 1 || many > w.frames || frame < 0 || frame >= w.frames {
		return true
	}
	return frame+many > w.frames || who < 0 || who > 8
}

// setQuota is what Quota must answer.
func (w *model) setQuota(who, most int) api.Errno {
	if who < 0 || who > 8 || most < 0 || most > 256 {
		return api.ErrArg
	}
	if w.count(who) > most {
		return api.ErrQuota
	}
	w.quota[who] = most
	return api.OK
}

// give is what Give must answer.
func (w *model) give(frame, many, who int) api.Errno {
	if w.wrong(frame, many, who) {
		return api.ErrArg
	}
	for n := range many {
		if w.of(frame+n) != -1 {
			return api.ErrTwice
		}
	}
	if w.count(who)+many > w.quota[who] {
		return api.ErrQuota
	}
	for n := range many {
		w.owner[frame+n] = who
	}
	return api.OK
}

// take is what Take must answer.
func (w *model) take(frame, many, who int) api.Errno {
	if w.wrong(frame, many, who) {
		return api.ErrArg
	}
	for n := range many {
		if w.of(frame+n) != who {
			return api.ErrNone
		}
	}
	for n := range many {
		delete(w.owner, frame+n)
	}
	return api.OK
}

// bench is the owners of some frames, and what they must tell.
type bench struct {
	*testing.T
	o *owners.Owners
	w *model
}

// start is the owners of so many frames.
func start(t *testing.T, frames int) *bench {
	t.Helper()
	o, e := owners.New(frames)
	if o == nil || e != api.OK {
		t.Fatalf("New(%d) = %v, %v", frames, o, e)
	}
	w := &model{frames: frames, owner: map[int]int{}}
	for who := range w.quota {
		w.quota[who] = 1 << 20
	}
	return &bench{T: t, o: o, w: w}
}

// holds asks for the owner of each frame, and for how many each owner has.
func (x *bench) holds(after string, about ...any) {
	x.Helper()
	for frame := -2; frame < x.w.frames+2; frame++ {
		if got, want := x.o.Of(frame), x.w.of(frame); got != want {
			x.Fatalf("after "+after+": Of(%d) = %d, want %d", append(about, frame, got, want)...)
		}
	}
	for who := -2; who < 11; who++ {
		if got, want := x.o.Count(who), x.w.count(who); got != want {
			x.Fatalf("after "+after+": Count(%d) = %d, want %d", append(about, who, got, want)...)
		}
	}
}

// quotas finds how many frames each owner may still have, as far as there are
// free ones: it gives them one by one, and takes them back.
func (x *bench) quotas(after string, about ...any) {
	x.Helper()
	for who, quota := range x.w.quota {
		want := min(quota-x.w.count(who), x.w.frames-len(x.w.owner))
		var given []int
		for frame := range x.w.frames {
			if x.w.of(frame) == -1 && x.o.Give(frame, 1, who) == api.OK {
				given = append(given, frame)
			}
		}
		if len(given) != want {
			x.Fatalf("after "+after+": owner %d may have %d frames more, want %d", append(about, who, len(given), want)...)
		}
		for _, frame := range given {
			if e := x.o.Take(frame, 1, who); e != api.OK {
				x.Fatalf("after "+after+": Take(%d, 1, %d) = %v", append(about, frame, who, e)...)
			}
		}
	}
	x.holds(after, about...)
}

// quota calls Quota, which must answer e, and holds all against the model.
func (x *bench) quota(who, most int, e api.Errno) {
	x.Helper()
	if want := x.w.setQuota(who, most); want != e {
		x.Fatalf("the test is wrong: Quota(%d, %d): %v or %v", who, most, want, e)
	}
	if got := x.o.Quota(who, most); got != e {
		x.Fatalf("Quota(%d, %d) = %v, want %v", who, most, got, e)
	}
	x.holds("Quota(%d, %d)", who, most)
	x.quotas("Quota(%d, %d)", who, most)
}

// give calls Give, which must answer e, and holds all against the model.
func (x *bench) give(frame, many, who int, e api.Errno) {
	x.Helper()
	if want := x.w.give(frame, many, who); want != e {
		x.Fatalf("the test is wrong: Give(%d, %d, %d): %v or %v", frame, many, who, want, e)
	}
	if got := x.o.Give(frame, many, who); got != e {
		x.Fatalf("Give(%d, %d, %d) = %v, want %v", frame, many, who, got, e)
	}
	x.holds("Give(%d, %d, %d)", frame, many, who)
	x.quotas("Give(%d, %d, %d)", frame, many, who)
}

// take calls Take, which must answer e, and holds all against the model.
func (x *bench) take(frame, many, who int, e api.Errno) {
	x.Helper()
	if want := x.w.take(frame, many, who); want != e {
		x.Fatalf("the test is wrong: Take(%d, %d, %d): %v or %v", frame, many, who, want, e)
	}
	if got := x.o.Take(frame, many, who); got != e {
		x.Fatalf("Take(%d, %d, %d) = %v, want %v", frame, many, who, got, e)
	}
	x.holds("Take(%d, %d, %d)", frame, many, who)
	x.quotas("Take(%d, %d, %d)", frame, many, who)
}

// The document's example, and what is told after it.
func TestExample(t *testing.T) {
	for _, frames := range []int{4, 8, 256} {
		x := start(t, frames)
		x.quota(2, 3, api.OK)
		x.give(0, 4, 2, api.ErrQuota)
		x.give(0, 3, 2, api.OK)
		x.give(2, 1, 1, api.ErrTwice)
		if got := []int{x.o.Of(0), x.o.Of(2), x.o.Of(3), x.o.Count(2), x.o.Count(1)}; !slices.Equal(got, []int{2, 2, -1, 3, 0}) {
			t.Errorf("%d frames: Of(0), Of(2), Of(3), Count(2), Count(1) = %v", frames, got)
		}
	}
}

// P5.1: each number of frames: none has an owner, and each owner may have all.
func TestNew(t *testing.T) {
	for frames := 1; frames <= 256; frames++ {
		x := start(t, frames)
		x.holds("New(%d)", frames)
		for who := range 9 {
			if e := x.o.Give(0, frames, who); e != api.OK {
				t.Errorf("New(%d): Give(0, %d, %d) = %v", frames, frames, who, e)
			}
			if got := x.o.Count(who); got != frames {
				t.Errorf("New(%d): Count(%d) = %d with all frames", frames, who, got)
			}
			if e := x.o.Take(0, frames, who); e != api.OK {
				t.Errorf("New(%d): Take(0, %d, %d) = %v", frames, frames, who, e)
			}
		}
		x.holds("New(%d), and all given and taken", frames)
	}
}

// P5.1: the edges that are named; and P0: numbers far from them.
func TestNewEdges(t *testing.T) {
	for frames, want := range map[int]api.Errno{0: api.ErrArg, 1: api.OK, 256: api.OK, 257: api.ErrArg} {
		if o, e := owners.New(frames); e != want || (o == nil) != (e != api.OK) {
			t.Errorf("New(%d) = %v, %v, want %v", frames, o, e, want)
		}
	}
	for _, frames := range edges {
		o, e := owners.New(frames)
		if frames >= 1 && frames <= 256 {
			if o == nil || e != api.OK {
				t.Errorf("New(%d) = %v, %v", frames, o, e)
			}
		} else if o != nil || e != api.ErrArg {
			t.Errorf("New(%d) = %v, %v, want nil, ErrArg", frames, o, e)
		}
	}
}

// P5.1, R4: what is given of one New is not to be seen in another.
func TestNewApart(t *testing.T) {
	x, y := start(t, 8), start(t, 8)
	x.give(0, 4, 3, api.OK)
	x.quota(3, 4, api.OK)
	y.quotas("calls on another")
	y.give(2, 5, 3, api.OK)
	x.quotas("calls on another")
}

// P5.1: the edges of who and of most that are named, of someone who owns
// nothing, and of someone who owns a frame.
func TestQuotaEdges(t *testing.T) {
	for _, c := range []struct {
		who, most int
		e         api.Errno
	}{
		{-1, 0, api.ErrArg}, {0, 0, api.OK}, {8, 0, api.OK}, {9, 0, api.ErrArg},
		{-1, 256, api.ErrArg}, {0, 256, api.OK}, {8, 256, api.OK}, {9, 256, api.ErrArg},
		{0, -1, api.ErrArg}, {0, 257, api.ErrArg}, {8, -1, api.ErrArg}, {8, 257, api.ErrArg},
		{1, -1, api.ErrArg}, {1, 0, api.OK}, {1, 1, api.OK}, {1, 255, api.OK}, {1, 256, api.OK}, {1, 257, api.ErrArg},
		{-1, -1, api.ErrArg}, {9, 257, api.ErrArg}, {-1, 257, api.ErrArg}, {9, -1, api.ErrArg},
	} {
		for _, frames := range []int{1, 8, 256} {
			x := start(t, frames)
			x.quota(c.who, c.most, c.e)
		}
		x := start(t, 256)
		if c.e == api.OK {
			x.give(100, 1, c.who, api.OK)
			e := api.OK
			if c.most == 0 {
				e = api.ErrQuota
			}
			x.quota(c.who, c.most, e)
		} else {
			x.give(100, 1, 0, api.OK)
			x.give(200, 1, 8, api.OK)
			x.quota(c.who, c.most, c.e)
		}
	}
}

// P5.1: a quota is kept as it was set, for each owner and each number; those
// of others stay as they are.
func TestQuotaEach(t *testing.T) {
	for who := range 9 {
		x := start(t, 256)
		for most := range 257 {
			if e := x.o.Quota(who, most); e != api.OK {
				t.Fatalf("Quota(%d, %d) = %v", who, most, e)
			}
			if most < 256 {
				if e := x.o.Give(0, most+1, who); e != api.ErrQuota {
					t.Errorf("Quota(%d, %d): Give of one more = %v", who, most, e)
				}
			}
			if most == 0 {
				continue
			}
			if e := x.o.Give(256-most, most, who); e != api.OK {
				t.Errorf("Quota(%d, %d): Give of as many = %v", who, most, e)
			}
			x.o.Take(256-most, most, who)
			other := (who + 1 + most%8) % 9
			if e := x.o.Give(0, 256, other); e != api.OK {
				t.Errorf("Quota(%d, %d): Give of all to %d = %v", who, most, other, e)
			}
			x.o.Take(0, 256, other)
		}
	}
}

// P5.1: most is just what who owns, one more and one less; a quota that is
// refused leaves the earlier one as it was.
func TestQuotaOwned(t *testing.T) {
	for _, frames := range []int{8, 100, 256} {
		for _, who := range []int{0, 1, 8} {
			for _, owned := range []int{1, 2, 7, frames - 1, frames} {
				x := start(t, frames)
				x.give(frames-owned, owned, who, api.OK)
				x.quota(who, owned-1, api.ErrQuota)
				x.quota(who, 0, api.ErrQuota)
				x.quota(who, owned, api.OK)
				if owned < frames {
					x.give(0, 1, who, api.ErrQuota)
					x.quota(who, owned+1, api.OK)
					x.quota(who, owned-1, api.ErrQuota)
					x.give(0, 1, who, api.OK)
					x.quota(who, owned, api.ErrQuota)
				}
				other := (who + 1) % 9
				x.quota(other, 0, api.OK)
			}
		}
	}
}

// P5.1: a quota is set anew after Give and Take, greater and less.
func TestQuotaAnew(t *testing.T) {
	x := start(t, 16)
	x.quota(4, 0, api.OK)
	x.give(3, 1, 4, api.ErrQuota)
	x.quota(4, 5, api.OK)
	x.give(0, 5, 4, api.OK)
	x.give(5, 1, 4, api.ErrQuota)
	x.quota(4, 4, api.ErrQuota)
	x.take(2, 2, 4, api.OK)
	x.quota(4, 2, api.ErrQuota)
	x.quota(4, 3, api.OK)
	x.give(2, 1, 4, api.ErrQuota)
	x.quota(4, 256, api.OK)
	x.give(5, 11, 4, api.OK)
	x.give(2, 2, 4, api.OK)
	x.quota(4, 15, api.ErrQuota)
	x.quota(4, 16, api.OK)
	x.take(0, 16, 4, api.OK)
	x.quota(4, 0, api.OK)
	x.give(0, 1, 4, api.ErrQuota)
}

// P5.1: that an argument is wrong is told ahead of who owning too many.
func TestQuotaOrder(t *testing.T) {
	x := start(t, 256)
	x.give(0, 256, 5, api.OK)
	x.quota(5, -1, api.ErrArg)
	x.quota(5, 257, api.ErrArg)
	x.quota(5, math.MinInt, api.ErrArg)
	x.quota(5, math.MaxInt, api.ErrArg)
	x.quota(5, 0, api.ErrQuota)
	x.quota(5, 255, api.ErrQuota)
	x.quota(5, 256, api.OK)
	x.quota(-1, 0, api.ErrArg) // no one's frames are not those of an owner -1
	x = start(t, 256)
	x.quota(-1, 0, api.ErrArg)
}

// P5.2: the ranges that are named, for frames that have no owner and then for
// those same frames.
func TestRanges(t *testing.T) {
	for _, frames := range []int{1, 2, 8, 255, 256} {
		last := frames - 1
		for _, c := range []struct {
			frame, many int
			is          bool
		}{
			{0, 0, false}, {0, 1, true}, {0, frames, true}, {0, frames + 1, false}, {0, -1, false},
			{last, 0, false}, {last, 1, true}, {last, 2, false}, {last, -1, false},
			{frames, 0, false}, {frames, 1, false}, {frames, -1, false}, {frames + 1, -1, false},
			{-1, 0, false}, {-1, 1, false}, {-1, 2, false}, {-1, frames, false}, {-1, frames + 1, false},
			{1, frames, false}, {1, last, frames > 1}, {0, last, frames > 1},
			{0, 256, frames == 256}, {0, 257, false}, {1, 256, false}, {256, 1, false}, {257, -1, false},
		} {
			x := start(t, frames)
			if !c.is {
				x.give(c.frame, c.many, 1, api.ErrArg)
				x.take(c.frame, c.many, 1, api.ErrArg)
				x.give(0, frames, 1, api.OK)
				x.give(c.frame, c.many, 1, api.ErrArg)
				x.take(c.frame, c.many, 1, api.ErrArg)
				continue
			}
			x.take(c.frame, c.many, 1, api.ErrNone)
			x.give(c.frame, c.many, 1, api.OK)
			x.give(c.frame, c.many, 1, api.ErrTwice)
			x.take(c.frame, c.many, 1, api.OK)
			x.take(c.frame, c.many, 1, api.ErrNone)
		}
	}
}

// P5.2: all ranges of some frames, given and taken, and beside them.
func TestRangesAll(t *testing.T) {
	for _, frames := range []int{1, 2, 7, 8} {
		for frame := -2; frame < frames+3; frame++ {
			for many := -2; many < frames+3; many++ {
				x := start(t, frames)
				give, take := api.ErrArg, api.ErrArg
				if frame >= 0 && many >= 1 && frame+many <= frames {
					give, take = api.OK, api.OK
				}
				x.give(frame, many, 7, give)
				x.take(frame, many, 7, take)
				x.give(frame, many, 0, give)
			}
		}
	}
}

// P5.2: the owners that are named.
func TestWho(t *testing.T) {
	x := start(t, 9)
	for who := range 9 {
		x.give(who, 1, who, api.OK)
	}
	for who := range 9 {
		if got := x.o.Of(who); got != who {
			t.Errorf("Of(%d) = %d", who, got)
		}
		x.take((who+1)%9, 1, who, api.ErrNone)
	}
	for who := range 9 {
		x.take(who, 1, who, api.OK)
	}
	for _, who := range []int{-2, -1, 9, 10, math.MinInt, math.MaxInt} {
		x.give(4, 1, who, api.ErrArg)
		x.take(4, 1, who, api.ErrArg) // -1 neither, though the frame is no one's
	}
}

// P5.2: none, the first, the last or one in the middle of the frames has an
// owner, the same or another: then no frame is given.
func TestGiveTwice(t *testing.T) {
	for _, owner := range []int{0, 3, 8} {
		for _, who := range []int{0, 3, 8} {
			for frame := range 12 {
				x := start(t, 12)
				x.give(frame, 1, owner, api.OK)
				e := api.ErrTwice
				if frame < 3 || frame > 8 {
					e = api.OK
				}
				x.give(3, 6, who, e)
			}
		}
	}
	x := start(t, 12)
	x.give(2, 3, 5, api.OK)
	x.give(0, 12, 5, api.ErrTwice)
	x.give(2, 3, 5, api.ErrTwice)
	x.give(4, 1, 6, api.ErrTwice)
	x.give(5, 7, 6, api.OK)
	x.give(0, 2, 5, api.OK)
	for frame := range 12 {
		x.give(frame, 1, 5, api.ErrTwice)
		x.give(frame, 1, 7, api.ErrTwice)
	}
}

// P5.2: frames up to a quota, and one beyond it, in one call and in several.
func TestGiveQuota(t *testing.T) {
	for _, who := range []int{0, 1, 8} {
		for _, most := range []int{0, 1, 5, 255} {
			x := start(t, 256)
			x.quota(who, most, api.OK)
			x.give(0, most+1, who, api.ErrQuota)
			x.give(0, 256, who, api.ErrQuota)
			if most > 0 {
				x.give(0, most, who, api.OK)
			}
			x.give(most, 1, who, api.ErrQuota)
			x.give(most, 1, (who+1)%9, api.OK)
		}
		x := start(t, 16)
		x.quota(who, 7, api.OK)
		x.give(1, 3, who, api.OK)
		x.give(6, 5, who, api.ErrQuota)
		x.give(6, 4, who, api.OK)
		x.give(15, 1, who, api.ErrQuota)
		x.take(2, 1, who, api.OK)
		x.give(14, 2, who, api.ErrQuota)
		x.give(15, 1, who, api.OK)
		x.give(2, 1, who, api.ErrQuota)
	}
}

// P5.2, P0: that an argument is wrong is told ahead of the rest, and that a
// frame has an owner ahead of the quota, also if it is the last frame.
func TestGiveOrder(t *testing.T) {
	x := start(t, 8)
	x.give(4, 1, 2, api.OK)
	x.quota(1, 0, api.OK)
	x.quota(2, 1, api.OK)
	x.give(4, 5, 1, api.ErrArg)
	x.give(4, 1, 9, api.ErrArg)
	x.give(4, 0, 1, api.ErrArg)
	x.give(8, 1, 2, api.ErrArg)
	x.give(0, 9, 2, api.ErrArg)
	x.give(0, 5, 1, api.ErrTwice)
	x.give(0, 5, 2, api.ErrTwice)
	x.give(3, 2, 2, api.ErrTwice)
	x.give(4, 1, 1, api.ErrTwice)
	x.give(4, 4, 1, api.ErrTwice)
	x.give(0, 8, 2, api.ErrTwice)
	x.give(0, 4, 1, api.ErrQuota)
	x.give(5, 1, 2, api.ErrQuota)
}

// P5.2: one of the frames has no owner or another one, be it the first, the
// last or one in the middle: then none is taken.
func TestTakeNone(t *testing.T) {
	for _, who := range []int{0, 3, 8} {
		for frame := range 12 {
			e := api.ErrNone
			if frame < 3 || frame > 8 {
				e = api.OK
			}
			x := start(t, 12)
			x.give(0, 12, who, api.OK)
			x.take(frame, 1, who, api.OK)
			x.take(3, 6, who, e)
			for _, other := range []int{0, 3, 8} {
				if other == who {
					continue
				}
				x := start(t, 12)
				x.give(0, 12, who, api.OK)
				x.take(frame, 1, who, api.OK)
				x.give(frame, 1, other, api.OK)
				x.take(3, 6, who, e)
				x.take(3, 6, other, api.ErrNone)
			}
		}
	}
}

// P5.2: frames need not be taken as they were given.
func TestTakeParts(t *testing.T) {
	x := start(t, 12)
	x.give(0, 4, 6, api.OK)
	x.give(4, 4, 6, api.OK)
	x.give(8, 4, 7, api.OK)
	x.take(0, 12, 6, api.ErrNone)
	x.take(2, 4, 6, api.OK)
	x.take(0, 8, 6, api.ErrNone)
	x.take(1, 2, 6, api.ErrNone)
	x.take(5, 2, 6, api.ErrNone)
	x.take(7, 2, 6, api.ErrNone)
	x.take(7, 2, 7, api.ErrNone)
	x.take(0, 2, 6, api.OK)
	x.take(6, 2, 6, api.OK)
	x.take(8, 1, 6, api.ErrNone)
	x.take(8, 4, 7, api.OK)
}

// P5.2: that an argument is wrong is told ahead of who not owning a frame.
func TestTakeOrder(t *testing.T) {
	x := start(t, 8)
	x.give(2, 6, 2, api.OK)
	x.take(0, 9, 2, api.ErrArg)
	x.take(2, 7, 2, api.ErrArg)
	x.take(2, 7, 1, api.ErrArg)
	x.take(0, 1, 9, api.ErrArg)
	x.take(0, 1, -1, api.ErrArg)
	x.take(0, 0, 1, api.ErrArg)
	x.take(8, 1, 2, api.ErrArg)
	x.take(-1, 1, 2, api.ErrArg)
	x.take(1, 7, 2, api.ErrNone)
}

// P5.3: the edges that are named, and numbers far from them.
func TestOf(t *testing.T) {
	for _, frames := range []int{1, 8, 100, 255, 256} {
		x := start(t, frames)
		x.give(0, frames, 8, api.OK)
		for _, frame := range append([]int{-1, 0, frames - 1, frames}, edges...) {
			want := -1
			if frame >= 0 && frame < frames {
				want = 8
			}
			if got := x.o.Of(frame); got != want {
				t.Errorf("%d frames: Of(%d) = %d, want %d", frames, frame, got, want)
			}
		}
		x.take(frames-1, 1, 8, api.OK)
		if got := x.o.Of(frames - 1); got != -1 {
			t.Errorf("%d frames: Of(%d), which was taken, = %d", frames, frames-1, got)
		}
		x.give(frames-1, 1, 0, api.OK)
		if got := x.o.Of(frames - 1); got != 0 {
			t.Errorf("%d frames: Of(%d), which is the kernel's, = %d", frames, frames-1, got)
		}
	}
}

// P5.3: each owner has another number of frames; who is no owner has none,
// though there are frames without an owner.
func TestCount(t *testing.T) {
	x := start(t, 256)
	frame := 3
	for who := range 9 {
		x.give(frame, 2*who+1, who, api.OK)
		frame += 2*who + 3
	}
	for who := range 9 {
		if got := x.o.Count(who); got != 2*who+1 {
			t.Errorf("Count(%d) = %d, want %d", who, got, 2*who+1)
		}
	}
	for _, who := range append([]int{-1, 9}, edges...) {
		if got := x.o.Count(who); got != 0 && (who < 0 || who > 8) {
			t.Errorf("Count(%d) = %d, want 0", who, got)
		}
	}
}

// P5.1, P0: all pairs of edges, the ends of int among them.
func TestQuotaWrong(t *testing.T) {
	x := start(t, 100)
	x.give(10, 9, 0, api.OK)
	x.give(90, 10, 8, api.OK)
	for _, who := range edges {
		for _, most := range edges {
			want := x.w.setQuota(who, most)
			if got := x.o.Quota(who, most); got != want {
				t.Errorf("Quota(%d, %d) = %v, want %v", who, most, got, want)
			}
		}
		x.quotas("Quota(%d)", who)
	}
}

// P5.2, P0: all triples of edges, the ends of int among them: of frames that
// have no owner, and of frames of which some have.
func TestRangesWrong(t *testing.T) {
	for _, frames := range []int{1, 100, 256} {
		for _, owned := range []bool{false, true} {
			x := start(t, frames)
			if owned {
				x.give(0, (frames+1)/2, 8, api.OK)
				x.quota(1, frames/4, api.OK)
			}
			for _, frame := range edges {
				for _, many := range edges {
					for _, who := range edges {
						want, got := x.w.give(frame, many, who), x.o.Give(frame, many, who)
						if got != want {
							t.Fatalf("%d frames: Give(%d, %d, %d) = %v, want %v", frames, frame, many, who, got, want)
						}
						want, got = x.w.take(frame, many, who), x.o.Take(frame, many, who)
						if got != want {
							t.Fatalf("%d frames: Take(%d, %d, %d) = %v, want %v", frames, frame, many, who, got, want)
						}
					}
					x.holds("Give and Take(%d, %d)", frame, many)
				}
				x.quotas("Give and Take(%d)", frame)
			}
		}
	}
}

// theorem holds P5.4 by what is told alone: the owners' frames together are
// those that have an owner, and no one has more than its quota.
func (x *bench) theorem() {
	x.Helper()
	owned, counted := 0, 0
	for frame := range x.w.frames {
		if x.o.Of(frame) != -1 {
			owned++
		}
	}
	for who := range 9 {
		count := x.o.Count(who)
		counted += count
		if count > x.w.quota[who] {
			x.Fatalf("Count(%d) = %d, with a quota of %d", who, count, x.w.quota[who])
		}
	}
	if owned != counted {
		x.Fatalf("%d frames have an owner, and the owners have %d", owned, counted)
	}
}

// P5.1 to P5.4: a long mixture of calls, right and wrong ones, beside the
// model; at the end all frames are taken.
func TestMixture(t *testing.T) {
	for seed, frames := range []int{1, 2, 8, 37, 100, 255, 256} {
		x := start(t, frames)
		state := uint64(seed)
		next := func(many int) int { // a fixed sequence, so that a failure comes again
			state = state*6364136223846793005 + 1442695040888963407
			return int(state >> 33 % uint64(many))
		}
		times := map[api.Errno]int{}
		for range 3000 {
			frame, many, who := next(frames+2)-1, next(1+next(min(frames, 12)+2)), next(11)-1
			var want, got api.Errno
			call := next(8)
			switch {
			case call == 0:
				most := x.w.count(who) + next(6) - 2 // near what who owns, so that it is reached
				want, got = x.w.setQuota(who, most), x.o.Quota(who, most)
			case call < 5:
				want, got = x.w.give(frame, many, who), x.o.Give(frame, many, who)
			default:
				if next(4) > 0 {
					who = x.w.of(frame)
				}
				want, got = x.w.take(frame, many, who), x.o.Take(frame, many, who)
			}
			if got != want {
				t.Fatalf("%d frames, call %d of %d, %d, %d: %v, want %v", frames, call, frame, many, who, got, want)
			}
			times[got]++
			x.holds("call %d of %d, %d, %d", call, frame, many, who)
			x.theorem()
			if next(20) == 0 {
				x.quotas("call %d of %d, %d, %d", call, frame, many, who)
			}
		}
		for _, e := range []api.Errno{api.OK, api.ErrArg, api.ErrNone, api.ErrTwice, api.ErrQuota} {
			if times[e] < 10 {
				t.Errorf("%d frames: only %d calls returned %v", frames, times[e], e)
			}
		}
		for frame := range frames {
			if who := x.w.of(frame); who != -1 {
				x.take(frame, 1, who, api.OK)
			}
		}
	}
}
