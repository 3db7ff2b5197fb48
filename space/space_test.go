package space

import (
	"math"
	"math/rand"
	"slices"
	"testing"

	"footplate/api"
	"footplate/spans"
)

// span is the span of two ends.
func span(first, last int) api.Span { return api.Span{First: first, Last: last} }

// row is spans of firsts and lasts that take turns.
func row(ends ...int) []api.Span {
	var l []api.Span
	for i := 0; i+1 < len(ends); i += 2 {
		l = append(l, span(ends[i], ends[i+1]))
	}
	return l
}

// block is a block of two ends, an owner and an area.
func block(first, last, owner, area int) Block {
	return Block{Span: span(first, last), Owner: owner, Area: area}
}

// wrong is spans that can't be owned.
func wrong() []api.Span {
	return row(
		0, 0, 15, 15, 15, 16, 15, 20, 0, 16, -1, 20, -20, -10, 1, api.MaxLabel, math.MinInt, 20,
		20, api.MaxLabel+1, 16, api.MaxLabel+1, api.MaxLabel, api.MaxLabel+1, api.MaxLabel+1, api.MaxLabel+1, 16, math.MaxInt, math.MaxInt, math.MaxInt,
		17, 16, 20, 19, 16, 15, 41, 40, api.MaxLabel, api.MaxLabel-1, api.MaxLabel, 16, 16, 0, 100, -1,
		math.MaxInt, math.MinInt, math.MinInt, math.MaxInt, math.MinInt, math.MinInt, 20, math.MinInt, math.MaxInt, 20,
		1<<32+16, 1<<32+20, 16, 1<<32+20,
	)
}

// picture is all that a space tells.
type picture struct {
	areas  [2]api.Span
	laid   [2]bool
	left   [3][]api.Span
	blocks []Block
}

// shot is the picture of a space as it is.
func shot(s *Space) picture {
	var p picture
	for i, area := range []int{Global, Local} {
		p.areas[i], p.laid[i] = s.Area(area)
	}
	for area := range p.left {
		p.left[area] = s.Left(area)
	}
	p.blocks = s.Blocks()
	return p
}

// same tells whether pictures are the same.
func (p picture) same(q picture) bool {
	for area := range p.left {
		if !slices.Equal(p.left[area], q.left[area]) {
			return false
		}
	}
	return p.areas == q.areas && p.laid == q.laid && slices.Equal(p.blocks, q.blocks)
}

// stays asks that nothing of a space is otherwise than it was.
func stays(t *testing.T, s *Space, before picture, what string) {
	t.Helper()
	if after := shot(s); !after.same(before) {
		t.Errorf("%s leaves %v, not %v", what, after, before)
	}
}

// carve asks for Carve's answer; with an error nothing may have changed.
func carve(t *testing.T, s *Space, area int, x api.Span, want api.Errno) {
	t.Helper()
	before := shot(s)
	if e := s.Carve(area, x); e != want {
		t.Errorf("Carve(%d, %v) tells %d, not %d", area, x, e, want)
	}
	if want != api.OK {
		stays(t, s, before, "Carve")
	} else {
		lies(t, s, area, x)
		holds(t, s, before.blocks...)
	}
}

// closes asks for Close's answer; with an error nothing may have changed.
func closes(t *testing.T, s *Space, area int, want api.Errno) {
	t.Helper()
	before := shot(s)
	if e := s.Close(area); e != want {
		t.Errorf("Close(%d) tells %d, not %d", area, e, want)
	}
	if want != api.OK {
		stays(t, s, before, "Close")
	} else {
		lacks(t, s, area)
		holds(t, s, before.blocks...)
	}
}

// draws asks Draw for a span.
func draws(t *testing.T, s *Space, owner, area, size int, want api.Span) {
	t.Helper()
	if x, e := s.Draw(owner, area, size); x != want || e != api.OK {
		t.Errorf("Draw(%d, %d, %d) is %v, %d, not %v", owner, area, size, x, e, want)
	}
	owns(t, s, want, owner, area)
}

// refuses asks Draw for an error; nothing may have changed.
func refuses(t *testing.T, s *Space, owner, area, size int, want api.Errno) {
	t.Helper()
	before := shot(s)
	if x, e := s.Draw(owner, area, size); x != (api.Span{}) || e != want {
		t.Errorf("Draw(%d, %d, %d) is %v, %d, not %d", owner, area, size, x, e, want)
	}
	stays(t, s, before, "Draw")
}

// takes asks for Take's answer; with an error nothing may have changed.
func takes(t *testing.T, s *Space, owner int, x api.Span, want api.Errno) {
	t.Helper()
	before := shot(s)
	if e := s.Take(owner, x); e != want {
		t.Errorf("Take(%d, %v) tells %d, not %d", owner, x, e, want)
	}
	if want != api.OK {
		stays(t, s, before, "Take")
	}
}

// frees asks for Free's answer; with an error nothing may have changed.
func frees(t *testing.T, s *Space, owner int, x api.Span, want api.Errno) {
	t.Helper()
	before := shot(s)
	if e := s.Free(owner, x); e != want {
		t.Errorf("Free(%d, %v) tells %d, not %d", owner, x, e, want)
	}
	if want != api.OK {
		stays(t, s, before, "Free")
	}
}

// lies asks Area for a span.
func lies(t *testing.T, s *Space, area int, want api.Span) {
	t.Helper()
	if x, is := s.Area(area); x != want || !is {
		t.Errorf("Area(%d) is %v, %v, not %v", area, x, is, want)
	}
}

// lacks asks for an area that isn't laid out, or is none.
func lacks(t *testing.T, s *Space, area int) {
	t.Helper()
	if x, is := s.Area(area); x != (api.Span{}) || is {
		t.Errorf("Area(%d) is %v, %v, not nothing", area, x, is)
	}
}

// owner asks for Owner.
func owner(t *testing.T, s *Space, label, want, area int) {
	t.Helper()
	if o, a := s.Owner(label); o != want || a != area {
		t.Errorf("Owner(%d) is %d, %d, not %d, %d", label, o, a, want, area)
	}
}

// owns asks Owner for both ends of a block.
func owns(t *testing.T, s *Space, x api.Span, want, area int) {
	t.Helper()
	owner(t, s, x.First, want, area)
	owner(t, s, x.Last, want, area)
}

// holds asks for Blocks.
func holds(t *testing.T, s *Space, want ...Block) {
	t.Helper()
	if got := s.Blocks(); !slices.Equal(got, want) {
		t.Errorf("Blocks is %v, not %v", got, want)
	}
}

// leaves asks for Left.
func leaves(t *testing.T, s *Space, area int, want []api.Span) {
	t.Helper()
	if got := s.Left(area); !slices.Equal(got, want) {
		t.Errorf("Left(%d) is %v, not %v", area, got, want)
	}
}

// index asks Index for a label.
func index(t *testing.T, s *Space, n, want int) {
	t.Helper()
	if label, is := s.Index(n); label != want || !is {
		t.Errorf("Index(%d) is %d, %v, not %d", n, label, is, want)
	}
}

// noIndex asks Index for a number that Global hasn't.
func noIndex(t *testing.T, s *Space, numbers ...int) {
	t.Helper()
	for _, n := range numbers {
		if label, is := s.Index(n); label != 0 || is {
			t.Errorf("Index(%d) is %d, %v, not nothing", n, label, is)
		}
	}
}

// laidOut is a space with both areas: Global 100 to 199, Local 300 to 309.
func laidOut(t *testing.T) *Space {
	t.Helper()
	s := New()
	carve(t, s, Global, span(100, 199), api.OK)
	carve(t, s, Local, span(300, 309), api.OK)
	return s
}

// P12.1, P12.2, P12.3: the chapter's examples, and the whole document's.
func TestExamples(t *testing.T) {
	s := New()
	carve(t, s, Global, span(16000, 23999), api.OK)
	index(t, s, 5, 16005)
	draws(t, s, 1, Plain, 3, span(16, 18))
	s = New()
	draws(t, s, 2, Plain, 3, span(16, 18))
}

// P12.1: a new space has no areas and no blocks; so has one that is made without New.
func TestNew(t *testing.T) {
	if New() == New() {
		t.Error("New answers the same space twice")
	}
	for _, s := range []*Space{New(), {}} {
		for area := -1; area <= 3; area++ {
			lacks(t, s, area)
		}
		holds(t, s)
		leaves(t, s, Plain, row(16, api.MaxLabel))
		for _, area := range []int{-1, Global, Local, 3} {
			leaves(t, s, area, nil)
		}
		noIndex(t, s, -1, 0, 1)
		for _, label := range []int{-1, 0, 15, 16, api.MaxLabel} {
			owner(t, s, label, 0, 0)
		}
		draws(t, s, 1, Plain, api.MaxLabel-15, span(16, api.MaxLabel))
	}
}

// P12.1: which areas can be laid out.
func TestCarveArea(t *testing.T) {
	for _, area := range []int{-1, Plain, 3, math.MinInt, math.MaxInt} {
		carve(t, New(), area, span(100, 199), api.ErrArg)
		carve(t, laidOut(t), area, span(16, 20), api.ErrArg)
	}
	for _, area := range []int{Global, Local} {
		s := New()
		carve(t, s, area, span(100, 199), api.OK)
		lacks(t, s, Global+Local-area)
		lacks(t, s, Plain)
		leaves(t, s, area, row(100, 199))
		leaves(t, s, Plain, row(16, 99, 200, api.MaxLabel))
	}
}

// P12.1: the spans that an area may have.
func TestCarveSpan(t *testing.T) {
	for _, area := range []int{Global, Local} {
		for _, x := range wrong() {
			carve(t, New(), area, x, api.ErrLabel)
		}
		for _, x := range row(16, 16, 16, 20, api.MaxLabel, api.MaxLabel, 20, api.MaxLabel) {
			carve(t, New(), area, x, api.OK)
		}
		s := New()
		carve(t, s, area, span(16, api.MaxLabel), api.OK)
		leaves(t, s, Plain, nil)
		refuses(t, s, 1, Plain, 1, api.ErrRun)
		carve(t, s, Global+Local-area, span(16, 16), api.ErrOverlap)
	}
}

// P12.1: an area is laid out of what is left of Plain alone.
func TestCarveOver(t *testing.T) {
	s := New()
	carve(t, s, Global, span(100, 199), api.OK)
	takes(t, s, 1, span(50, 59), api.OK)
	takes(t, s, 2, span(150, 159), api.OK)
	for _, x := range row(
		50, 59, 55, 55, 45, 50, 59, 60, 40, 70, // over a block of Plain
		100, 199, 100, 100, 199, 199, 99, 100, 199, 200, 120, 130, 90, 210, 150, 159, 16, api.MaxLabel, // over Global
		59, 100, 155, 300,
	) {
		carve(t, s, Local, x, api.ErrOverlap)
	}
	for _, x := range row(60, 99, 99, 99, 200, 200, 200, 300, 49, 49, 16, 49, 60, 60) { // touching
		carve(t, s, Local, x, api.OK)
		closes(t, s, Local, api.OK)
	}
	carve(t, s, Local, span(60, 99), api.OK)
	leaves(t, s, Plain, row(16, 49, 200, api.MaxLabel))
	leaves(t, s, Global, row(100, 149, 160, 199))
	leaves(t, s, Local, row(60, 99))
	holds(t, s, block(50, 59, 1, Plain), block(150, 159, 2, Global))
}

// P12.1: the errors of Carve, in their order.
func TestCarveOrder(t *testing.T) {
	s := laidOut(t)
	takes(t, s, 1, span(20, 29), api.OK)
	carve(t, s, Plain, span(15, 20), api.ErrArg)
	carve(t, s, 3, span(20, 19), api.ErrArg)
	carve(t, s, -1, span(20, 29), api.ErrArg)
	for _, area := range []int{Global, Local} {
		carve(t, s, area, span(15, 100), api.ErrLabel)
		carve(t, s, area, span(20, 19), api.ErrLabel)
		carve(t, s, area, span(20, api.MaxLabel+1), api.ErrLabel)
		carve(t, s, area, span(100, 199), api.ErrTwice)
		carve(t, s, area, span(20, 29), api.ErrTwice)
		carve(t, s, area, span(300, 309), api.ErrTwice)
		carve(t, s, area, span(500, 599), api.ErrTwice)
	}
}

// P12.1: what can't be closed, and what can.
func TestClose(t *testing.T) {
	for _, area := range []int{-1, Plain, 3, math.MinInt, math.MaxInt} {
		closes(t, New(), area, api.ErrArg)
		closes(t, laidOut(t), area, api.ErrArg)
	}
	for _, area := range []int{Global, Local} {
		closes(t, New(), area, api.ErrNone)
		s := laidOut(t)
		closes(t, s, area, api.OK)
		closes(t, s, area, api.ErrNone)
		lies(t, s, Global+Local-area, map[int]api.Span{Global: span(300, 309), Local: span(100, 199)}[area])
		leaves(t, s, area, nil)
		refuses(t, s, 1, area, 1, api.ErrNone)
	}
	s := laidOut(t)
	closes(t, s, Global, api.OK)
	leaves(t, s, Plain, row(16, 299, 310, api.MaxLabel))
	closes(t, s, Local, api.OK)
	leaves(t, s, Plain, row(16, api.MaxLabel))
	carve(t, s, Global, span(250, 400), api.OK)
}

// P12.1: a block keeps its area from being closed, however it came there.
func TestCloseBusy(t *testing.T) {
	for _, area := range []int{Global, Local} {
		s := laidOut(t)
		x, _ := s.Area(area)
		first, last := span(x.First, x.First+2), span(x.Last, x.Last)
		draws(t, s, 1, area, 3, first)
		closes(t, s, area, api.ErrBusy)
		takes(t, s, 2, last, api.OK)
		closes(t, s, area, api.ErrBusy)
		frees(t, s, 1, first, api.OK)
		closes(t, s, area, api.ErrBusy)
		frees(t, s, 2, last, api.OK)
		// Blocks that touch it, and one in the other area, don't lie in it.
		takes(t, s, 3, span(x.First-1, x.First-1), api.OK)
		takes(t, s, 3, span(x.Last+1, x.Last+1), api.OK)
		takes(t, s, 3, map[int]api.Span{Global: span(300, 309), Local: span(100, 199)}[area], api.OK)
		closes(t, s, area, api.OK)
		owner(t, s, x.First-1, 3, Plain)
		owner(t, s, x.First, 0, 0)
	}
}

// P12.2: what may not be drawn.
func TestDrawWrong(t *testing.T) {
	for _, s := range []*Space{New(), laidOut(t)} {
		for _, owner := range []int{0, -1, math.MinInt} {
			for area := -1; area <= 3; area++ {
				refuses(t, s, owner, area, 1, api.ErrArg)
			}
		}
		for _, area := range []int{-1, 3, math.MinInt, math.MaxInt} {
			refuses(t, s, 1, area, 1, api.ErrArg)
		}
		for _, size := range []int{0, -1, math.MinInt} {
			for area := Plain; area <= Local; area++ {
				refuses(t, s, 1, area, size, api.ErrArg)
			}
		}
		for _, size := range []int{api.MaxLabel - 14, api.MaxLabel, api.MaxLabel + 1, 1 << 32, math.MaxInt} {
			refuses(t, s, 1, Plain, size, api.ErrRun)
		}
	}
	for _, area := range []int{Global, Local} {
		refuses(t, New(), 1, area, 1, api.ErrNone)
		refuses(t, New(), 1, area, math.MaxInt, api.ErrNone)
		refuses(t, New(), 0, area, 1, api.ErrArg)
		refuses(t, New(), 1, area, 0, api.ErrArg)
		refuses(t, laidOut(t), 1, area, 101, api.ErrRun)
		refuses(t, laidOut(t), 1, area, math.MaxInt, api.ErrRun)
	}
}

// P12.2: as many labels as an area has left, and one more.
func TestDrawAll(t *testing.T) {
	for _, owner := range []int{1, 2, math.MaxInt} {
		s := laidOut(t)
		refuses(t, s, owner, Global, 101, api.ErrRun)
		draws(t, s, owner, Global, 100, span(100, 199))
		refuses(t, s, owner, Global, 1, api.ErrRun)
		refuses(t, s, owner, Local, 11, api.ErrRun)
		draws(t, s, owner, Local, 4, span(300, 303))
		refuses(t, s, owner, Local, 7, api.ErrRun)
		draws(t, s, owner, Local, 6, span(304, 309))
		refuses(t, s, owner, Local, 1, api.ErrRun)
		refuses(t, s, owner, Plain, api.MaxLabel-310+2, api.ErrRun)
		draws(t, s, owner, Plain, api.MaxLabel-310+1, span(310, api.MaxLabel))
		draws(t, s, owner, Plain, 100, span(200, 299))
		draws(t, s, owner, Plain, 84, span(16, 99))
		refuses(t, s, owner, Plain, 1, api.ErrRun)
		for area := range 3 {
			leaves(t, s, area, nil)
		}
		holds(t, s, block(16, 99, owner, Plain), block(100, 199, owner, Global), block(200, 299, owner, Plain),
			block(300, 303, owner, Local), block(304, 309, owner, Local), block(310, api.MaxLabel, owner, Plain))
	}
}

// P12.2: the lowest gap that is wide enough, between blocks and areas.
func TestDrawGaps(t *testing.T) {
	s := New()
	takes(t, s, 1, span(18, 19), api.OK)
	takes(t, s, 1, span(24, 29), api.OK)
	carve(t, s, Local, span(35, 39), api.OK)
	carve(t, s, Global, span(43, 60), api.OK)
	takes(t, s, 1, span(45, 45), api.OK)
	leaves(t, s, Plain, row(16, 17, 20, 23, 30, 34, 40, 42, 61, api.MaxLabel))
	draws(t, s, 2, Plain, 5, span(30, 34)) // just between a block and an area
	draws(t, s, 2, Plain, 3, span(20, 22))
	draws(t, s, 2, Plain, 3, span(40, 42)) // just between areas
	draws(t, s, 2, Plain, 2, span(16, 17)) // ahead of all
	draws(t, s, 2, Plain, 2, span(61, 62)) // the gap at 23 is too small
	draws(t, s, 2, Plain, 1, span(23, 23))
	draws(t, s, 2, Plain, 1, span(63, 63))
	draws(t, s, 3, Global, 3, span(46, 48)) // behind a block, though 43 and 44 are left
	draws(t, s, 3, Global, 2, span(43, 44))
	draws(t, s, 3, Local, 5, span(35, 39))
	refuses(t, s, 3, Local, 1, api.ErrRun)
	leaves(t, s, Plain, row(64, api.MaxLabel))
	leaves(t, s, Global, row(49, 60))
	frees(t, s, 1, span(24, 29), api.OK)
	frees(t, s, 2, span(23, 23), api.OK)
	draws(t, s, 4, Plain, 7, span(23, 29)) // of what two have freed
}

// P12.2: who may take, and what.
func TestTakeWrong(t *testing.T) {
	s := laidOut(t)
	takes(t, s, 1, span(20, 29), api.OK)
	for _, owner := range []int{0, -1, math.MinInt} {
		for _, x := range row(16, 16, 15, 16, 41, 40, 20, 29, 199, 200) {
			takes(t, s, owner, x, api.ErrArg)
		}
	}
	for _, x := range wrong() {
		takes(t, s, 1, x, api.ErrLabel)
		takes(t, New(), 1, x, api.ErrLabel)
	}
	holds(t, s, block(20, 29, 1, Plain))
}

// P12.2: the spans that may be taken, one for each area.
func TestTake(t *testing.T) {
	for _, x := range row(16, 16, 16, 20, api.MaxLabel, api.MaxLabel, 20, api.MaxLabel, 16, api.MaxLabel) {
		s := New()
		takes(t, s, 1, x, api.OK)
		holds(t, s, block(x.First, x.Last, 1, Plain))
		owns(t, s, x, 1, Plain)
	}
	for _, c := range []Block{
		block(100, 199, 1, Global), block(100, 100, math.MaxInt, Global), block(199, 199, 1, Global), block(150, 160, 2, Global),
		block(300, 309, 1, Local), block(300, 300, 1, Local), block(309, 309, 1, Local), block(305, 306, 7, Local),
		block(16, 99, 1, Plain), block(99, 99, 1, Plain), block(200, 299, 1, Plain), block(200, 200, 1, Plain), block(310, 310, 1, Plain),
	} {
		s := laidOut(t)
		takes(t, s, c.Owner, c.Span, api.OK)
		holds(t, s, c)
		owns(t, s, c.Span, c.Owner, c.Area)
	}
}

// P12.2: a block lies in one area, and over no other block.
func TestTakeOverlap(t *testing.T) {
	s := laidOut(t)
	for _, x := range row(99, 100, 199, 200, 99, 200, 16, api.MaxLabel, 299, 300, 309, 310, 150, 305, 250, 301, 50, 150) {
		takes(t, s, 1, x, api.ErrOverlap) // across an edge
	}
	blocks := []Block{block(20, 29, 1, Plain), block(120, 129, 1, Global), block(303, 305, 1, Local)}
	for _, b := range blocks {
		takes(t, s, 1, b.Span, api.OK)
	}
	for _, b := range blocks {
		first, last := b.Span.First, b.Span.Last
		for _, owner := range []int{1, 2} {
			for _, x := range row(first, last, first, first, last, last, first-1, first, last, last+1, first-1, last+1, first+1, last-1) {
				takes(t, s, owner, x, api.ErrOverlap)
			}
		}
	}
	holds(t, s, blocks...)
	for _, b := range blocks { // beside one
		takes(t, s, 1, span(b.Span.First-1, b.Span.First-1), api.OK)
		takes(t, s, 2, span(b.Span.Last+1, b.Span.Last+2), api.OK)
	}
	holds(t, s, block(19, 19, 1, Plain), block(20, 29, 1, Plain), block(30, 31, 2, Plain),
		block(119, 119, 1, Global), block(120, 129, 1, Global), block(130, 131, 2, Global),
		block(302, 302, 1, Local), block(303, 305, 1, Local), block(306, 307, 2, Local))
}

// P12.2: two areas that touch are two areas.
func TestTouchingAreas(t *testing.T) {
	s := New()
	carve(t, s, Local, span(16, 19), api.OK)
	carve(t, s, Global, span(20, 29), api.OK)
	takes(t, s, 1, span(19, 20), api.ErrOverlap)
	refuses(t, s, 1, Local, 5, api.ErrRun)
	takes(t, s, 1, span(19, 19), api.OK)
	takes(t, s, 1, span(20, 20), api.OK)
	leaves(t, s, Local, row(16, 18))
	leaves(t, s, Global, row(21, 29))
	leaves(t, s, Plain, row(30, api.MaxLabel))
	takes(t, s, 2, span(30, 30), api.OK)
	takes(t, s, 2, span(29, 29), api.OK)
	holds(t, s, block(19, 19, 1, Local), block(20, 20, 1, Global), block(29, 29, 2, Global), block(30, 30, 2, Plain))
	frees(t, s, 1, span(20, 20), api.OK)
	frees(t, s, 2, span(29, 29), api.OK)
	closes(t, s, Global, api.OK)
	closes(t, s, Local, api.ErrBusy)
	leaves(t, s, Plain, row(20, 29, 31, api.MaxLabel))
}

// P12.2: just a block of that owner can be freed.
func TestFree(t *testing.T) {
	s := laidOut(t)
	takes(t, s, 1, span(20, 29), api.OK)
	takes(t, s, 1, span(30, 39), api.OK) // touches the first one
	takes(t, s, 2, span(40, 49), api.OK)
	takes(t, s, 1, span(120, 129), api.OK)
	for _, x := range row(20, 28, 21, 29, 20, 20, 29, 29, 24, 25, 19, 29, 20, 30, // a part, or more
		20, 39, 30, 49, 29, 30, 20, 49, // two that touch
		16, 19, 50, 59, 200, 209, 100, 199, 110, 119, 300, 309, 16, api.MaxLabel) { // what nobody owns
		for _, owner := range []int{1, 2} {
			frees(t, s, owner, x, api.ErrNone)
		}
	}
	for _, x := range wrong() {
		frees(t, s, 1, x, api.ErrNone)
		frees(t, s, 0, x, api.ErrNone)
	}
	frees(t, s, 1, span(29, 20), api.ErrNone)
	frees(t, s, 1, span(20, 19), api.ErrNone)
	for _, owner := range []int{2, 0, -1, 3, math.MinInt, math.MaxInt} { // another's
		frees(t, s, owner, span(20, 29), api.ErrNone)
	}
	frees(t, s, 1, span(40, 49), api.ErrNone)
	frees(t, s, 1, span(20, 29), api.OK)
	frees(t, s, 1, span(20, 29), api.ErrNone) // twice
	holds(t, s, block(30, 39, 1, Plain), block(40, 49, 2, Plain), block(120, 129, 1, Global))
	leaves(t, s, Plain, row(16, 29, 50, 99, 200, 299, 310, api.MaxLabel))
	frees(t, s, 2, span(40, 49), api.OK)
	frees(t, s, 1, span(120, 129), api.OK)
	frees(t, s, 1, span(30, 39), api.OK)
	if got := shot(s); !got.same(shot(laidOut(t))) {
		t.Errorf("all freed leaves %v", got)
	}
}

// P12.3: each label of a block, and those beside it.
func TestOwner(t *testing.T) {
	s := laidOut(t)
	takes(t, s, 5, span(16, 17), api.OK)
	takes(t, s, 6, span(18, 20), api.OK)
	takes(t, s, 7, span(120, 129), api.OK)
	takes(t, s, math.MaxInt, span(305, 305), api.OK)
	takes(t, s, 8, span(api.MaxLabel-1, api.MaxLabel), api.OK)
	for _, c := range [][3]int{
		{math.MinInt, 0, 0}, {-1, 0, 0}, {0, 0, 0}, {15, 0, 0},
		{16, 5, Plain}, {17, 5, Plain}, {18, 6, Plain}, {19, 6, Plain}, {20, 6, Plain}, {21, 0, 0}, {60, 0, 0},
		{100, 0, 0}, {119, 0, 0}, {120, 7, Global}, {125, 7, Global}, {129, 7, Global}, {130, 0, 0},
		{304, 0, 0}, {305, math.MaxInt, Local}, {306, 0, 0},
		{api.MaxLabel - 2, 0, 0}, {api.MaxLabel - 1, 8, Plain}, {api.MaxLabel, 8, Plain}, {api.MaxLabel + 1, 0, 0}, {math.MaxInt, 0, 0},
	} {
		owner(t, s, c[0], c[1], c[2])
	}
}

// P12.3: blocks rise by First, however they came.
func TestBlocks(t *testing.T) {
	want := []Block{block(20, 20, 9, Plain), block(40, 49, 1, Plain), block(110, 119, 8, Global), block(300, 301, 2, Local), block(400, 499, 1, Plain)}
	for seed := range int64(50) {
		s := laidOut(t)
		for _, i := range rand.New(rand.NewSource(seed)).Perm(len(want)) {
			takes(t, s, want[i].Owner, want[i].Span, api.OK)
		}
		holds(t, s, want...)
	}
}

// P12.3: what is left of areas, and of what is none.
func TestLeft(t *testing.T) {
	s := laidOut(t)
	for _, area := range []int{-1, 3, math.MinInt, math.MaxInt} {
		leaves(t, s, area, nil)
	}
	leaves(t, s, Plain, row(16, 99, 200, 299, 310, api.MaxLabel))
	leaves(t, s, Global, row(100, 199))
	leaves(t, s, Local, row(300, 309))
	for _, x := range row(100, 100, 104, 104, 101, 101, 199, 199, 150, 159, 99, 99, 200, 205, 310, 310, 307, 309, 16, 16, api.MaxLabel, api.MaxLabel) {
		takes(t, s, 1, x, api.OK)
	}
	leaves(t, s, Plain, row(17, 98, 206, 299, 311, api.MaxLabel-1))
	leaves(t, s, Global, row(102, 103, 105, 149, 160, 198))
	leaves(t, s, Local, row(300, 306))
}

// P12.3: the labels that Global's numbers have.
func TestIndex(t *testing.T) {
	s := New()
	noIndex(t, s, -1, 0, 1, math.MaxInt)
	carve(t, s, Local, span(50, 59), api.OK)
	noIndex(t, s, -1, 0, 1)
	for _, x := range row(16000, 23999, 16, 16, api.MaxLabel, api.MaxLabel, 60, api.MaxLabel, 100, 101) {
		carve(t, s, Global, x, api.OK)
		last := x.Last - x.First
		index(t, s, 0, x.First)
		index(t, s, last, x.Last)
		index(t, s, last/2, x.First+last/2)
		noIndex(t, s, -1, -x.First, last+1, last+2, api.MaxLabel+1, 1<<32, -1<<32, math.MinInt, math.MaxInt, math.MaxInt-x.First+1)
		closes(t, s, Global, api.OK)
		noIndex(t, s, -1, 0, last)
	}
	carve(t, s, Global, span(100, 104), api.OK)
	draws(t, s, 1, Global, 5, span(100, 104))
	index(t, s, 4, 104) // whoever owns it
}

// P12.3: nothing is told of nil, and nothing is done.
func TestNil(t *testing.T) {
	var s *Space
	for area := -1; area <= 3; area++ {
		carve(t, s, area, span(100, 199), api.ErrArg)
		carve(t, s, area, span(15, 14), api.ErrArg)
		closes(t, s, area, api.ErrArg)
		lacks(t, s, area)
		leaves(t, s, area, nil)
		for _, owner := range []int{-1, 0, 1} {
			for _, size := range []int{-1, 0, 1, math.MaxInt} {
				refuses(t, s, owner, area, size, api.ErrArg)
			}
		}
	}
	for _, x := range append(wrong(), span(16, 20)) {
		for _, owner := range []int{-1, 0, 1} {
			takes(t, s, owner, x, api.ErrArg)
			frees(t, s, owner, x, api.ErrArg)
		}
	}
	for _, label := range []int{-1, 0, 16, api.MaxLabel} {
		owner(t, s, label, 0, 0)
	}
	holds(t, s)
	noIndex(t, s, -1, 0, 1, math.MinInt, math.MaxInt)
}

// What is answered is new memory.
func TestNewMemory(t *testing.T) {
	s := laidOut(t)
	takes(t, s, 1, span(20, 29), api.OK)
	takes(t, s, 2, span(120, 129), api.OK)
	want := shot(s)
	blocks := s.Blocks()
	_ = append(blocks[:1], Block{Owner: 9})
	blocks[0] = Block{Owner: 9}
	for area := range 3 {
		left := s.Left(area)
		_ = append(left[:0], span(1, 2))
		left[0] = span(3, 4)
	}
	stays(t, s, want, "a list that was changed")
	before := s.Blocks()
	takes(t, s, 3, span(16, 19), api.OK)
	frees(t, s, 1, span(20, 29), api.OK)
	if !slices.Equal(before, want.blocks) {
		t.Errorf("Blocks that were told are now %v", before)
	}
}

// A space knows nothing of others.
func TestTwoSpaces(t *testing.T) {
	a, b := New(), New()
	carve(t, a, Global, span(100, 199), api.OK)
	draws(t, a, 1, Plain, 3, span(16, 18))
	lacks(t, b, Global)
	holds(t, b)
	draws(t, b, 2, Plain, 200, span(16, 215))
	holds(t, a, block(16, 18, 1, Plain))
}

// P12.4: what is drawn and freed leaves all as it was.
func TestDrawAndFree(t *testing.T) {
	s := laidOut(t)
	for _, x := range row(20, 29, 30, 30, 90, 99, 100, 104, 198, 199, 302, 303, 309, 309, 310, 320) {
		takes(t, s, 1, x, api.OK)
	}
	before := shot(s)
	for area := range 3 {
		for size := 1; size < 120; size++ {
			x, e := s.Draw(1, area, size)
			if e == api.OK {
				frees(t, s, 1, x, api.OK)
			}
			stays(t, s, before, "Draw and Free")
		}
	}
}

// P12.2: many blocks, one by one, till none is left, and in no order.
func TestMany(t *testing.T) {
	s := New()
	if e := s.Carve(Local, span(api.MaxLabel-9, api.MaxLabel)); e != api.OK {
		t.Fatal(e)
	}
	for label := 16; label <= api.MaxLabel-10; label++ {
		if x, e := s.Draw(label, Plain, 1); x != span(label, label) || e != api.OK {
			t.Fatalf("Draw of %d is %v, %d", label, x, e)
		}
	}
	refuses(t, s, 1, Plain, 1, api.ErrRun)
	owner(t, s, 500000, 500000, Plain)
	if n := len(s.Blocks()); n != api.MaxLabel-10-15 {
		t.Errorf("there are %d blocks", n)
	}
	s = New()
	for _, i := range rand.New(rand.NewSource(1)).Perm(20000) {
		if e := s.Take(i+1, span(16+2*i, 16+2*i)); e != api.OK {
			t.Fatalf("Take of %d tells %d", 16+2*i, e)
		}
	}
	if left := s.Left(Plain); len(left) != 20000 || spans.Count(left) != api.MaxLabel-15-20000 {
		t.Errorf("%d rows are left", len(left))
	}
	draws(t, s, 1, Plain, 2, span(40015, 40016))
}

// window is how many labels the model looks at.
const window = 24

// model is who owns which label of a window, label by label; all labels beside it are one block, or two.
type model struct {
	base   int
	area   [window]int
	block  [window]int // a block's number, from 1 on; 0: none
	blocks map[int]Block
	next   int
}

// begun is a model, and a space that is as it, in which labels beside the window are taken by owner 1000.
func begun(t *testing.T, base int) (*model, *Space) {
	t.Helper()
	m, s := &model{base: base, blocks: map[int]Block{}}, New()
	for _, x := range row(16, base-1, base+window, api.MaxLabel) {
		if x.First <= x.Last {
			takes(t, s, 1000, x, api.OK)
			m.next++
			m.blocks[m.next] = Block{Span: x, Owner: 1000}
		}
	}
	return m, s
}

// all tells whether something is so of all labels of a span, which lies in the window.
func (m *model) all(x api.Span, so func(i int) bool) bool {
	for label := x.First; label <= x.Last; label++ {
		if i := label - m.base; i < 0 || i >= window || !so(i) {
			return false
		}
	}
	return true
}

// left tells whether all labels of a span are in an area, and in no block.
func (m *model) left(area int, x api.Span) bool {
	return m.all(x, func(i int) bool { return m.area[i] == area && m.block[i] == 0 })
}

// laid is the labels of an area, in the window.
func (m *model) laid(area int) []int {
	var l []int
	for i, a := range m.area {
		if a == area {
			l = append(l, m.base+i)
		}
	}
	return l
}

// may tells whether a span can be owned.
func (m *model) may(x api.Span) bool { return x.First >= 16 && x.First <= x.Last && x.Last <= 1048575 }

// carve is Carve, as the chapter tells it.
func (m *model) carve(area int, x api.Span) api.Errno {
	switch {
	case area != 1 && area != 2:
		return 1
	case !m.may(x):
		return 40
	case len(m.laid(area)) > 0:
		return 32
	case !m.left(0, x):
		return 42
	}
	for label := x.First; label <= x.Last; label++ {
		m.area[label-m.base] = area
	}
	return 0
}

// close is Close, as the chapter tells it.
func (m *model) close(area int) api.Errno {
	switch {
	case area != 1 && area != 2:
		return 1
	case len(m.laid(area)) == 0:
		return 31
	}
	for _, label := range m.laid(area) {
		if m.block[label-m.base] > 0 {
			return 33
		}
	}
	for _, label := range m.laid(area) {
		m.area[label-m.base] = 0
	}
	return 0
}

// draw is Draw, as the chapter tells it.
func (m *model) draw(owner, area, size int) (api.Span, api.Errno) {
	switch {
	case owner < 1 || area < 0 || area > 2 || size < 1:
		return api.Span{}, 1
	case area > 0 && len(m.laid(area)) == 0:
		return api.Span{}, 31
	}
	for first := m.base; first < m.base+window; first++ {
		if x := span(first, first+size-1); m.left(area, x) {
			m.lay(owner, x)
			return x, 0
		}
	}
	return api.Span{}, 43
}

// take is Take, as the chapter tells it.
func (m *model) take(owner int, x api.Span) api.Errno {
	switch {
	case owner < 1:
		return 1
	case !m.may(x):
		return 40
	case !m.left(0, x) && !m.left(1, x) && !m.left(2, x):
		return 42
	}
	m.lay(owner, x)
	return 0
}

// lay makes a span a block.
func (m *model) lay(owner int, x api.Span) {
	m.next++
	m.blocks[m.next] = Block{Span: x, Owner: owner, Area: m.area[x.First-m.base]}
	for label := x.First; label <= x.Last; label++ {
		m.block[label-m.base] = m.next
	}
}

// free is Free, as the chapter tells it.
func (m *model) free(owner int, x api.Span) api.Errno {
	for n, b := range m.blocks {
		if b.Span == x && b.Owner == owner {
			delete(m.blocks, n)
			for i := range m.block {
				if m.block[i] == n {
					m.block[i] = 0
				}
			}
			return 0
		}
	}
	return 31
}

// agrees asks a space for all that the model tells.
func (m *model) agrees(t *testing.T, s *Space) {
	t.Helper()
	var blocks []Block
	for _, b := range m.blocks {
		blocks = append(blocks, b)
	}
	slices.SortFunc(blocks, func(a, b Block) int { return a.Span.First - b.Span.First })
	holds(t, s, blocks...)
	for area := range 3 {
		var left []api.Span
		for _, label := range m.laid(area) {
			if m.block[label-m.base] == 0 {
				left = append(left, span(label, label))
			}
		}
		leaves(t, s, area, spans.Norm(left))
		if l := m.laid(area); area > 0 && len(l) > 0 {
			lies(t, s, area, span(l[0], l[len(l)-1]))
		} else {
			lacks(t, s, area)
		}
	}
	for i, n := range m.block {
		b := m.blocks[n]
		owner(t, s, m.base+i, b.Owner, b.Area)
	}
	global := m.laid(Global)
	for n, label := range global {
		index(t, s, n, label)
	}
	noIndex(t, s, -1, len(global))
}

// step does the same with a model and a space.
func (m *model) step(t *testing.T, s *Space, r *rand.Rand) {
	t.Helper()
	first := m.base - 2 + r.Intn(window+4)
	x := span(first, first-1+r.Intn(7))
	owner, area, size := r.Intn(4), r.Intn(5)-1, r.Intn(6)
	switch r.Intn(9) {
	case 0:
		carve(t, s, area, x, m.carve(area, x))
	case 1:
		closes(t, s, area, m.close(area))
	case 2, 3:
		if run, e := m.draw(owner, area, size); e == 0 {
			draws(t, s, owner, area, size, run)
		} else {
			refuses(t, s, owner, area, size, e)
		}
	case 4, 5:
		takes(t, s, owner, x, m.take(owner, x))
	case 6:
		frees(t, s, owner, x, m.free(owner, x))
	default:
		l := s.Blocks()
		if len(l) == 0 {
			return
		}
		b := l[r.Intn(len(l))]
		if b.Owner == 1000 || r.Intn(8) == 0 {
			b.Owner = owner
		}
		frees(t, s, b.Owner, b.Span, m.free(b.Owner, b.Span))
	}
}

// P12.1, P12.2, P12.3, P12.4: drawn operations, as the model answers them, at both ends of all labels and between.
func TestModel(t *testing.T) {
	for seed := range int64(300) {
		r := rand.New(rand.NewSource(seed))
		m, s := begun(t, []int{16, 5000, api.MaxLabel - window + 1}[seed%3])
		for range 120 {
			m.step(t, s, r)
			m.agrees(t, s)
			if t.Failed() {
				t.Fatalf("seed %d", seed)
			}
		}
	}
}

// P12.4: blocks and what is left are disjoint, and are all there is.
func TestAllThereIs(t *testing.T) {
	for seed := range int64(100) {
		r := rand.New(rand.NewSource(seed))
		m, s := begun(t, 16)
		for range 60 {
			m.step(t, s, r)
		}
		count := 0
		var all []api.Span
		for area := range 3 {
			count += spans.Count(s.Left(area))
			all = append(all, s.Left(area)...)
		}
		for _, b := range s.Blocks() {
			count += spans.Count([]api.Span{b.Span})
			all = append(all, b.Span)
			if x, is := s.Area(b.Area); is && (b.Span.First < x.First || b.Span.Last > x.Last) {
				t.Errorf("block %v isn't in its area %v", b, x)
			}
		}
		if count != api.MaxLabel-15 || !slices.Equal(spans.Norm(all), row(16, api.MaxLabel)) {
			t.Errorf("seed %d: all there is is %d labels, %v", seed, count, spans.Norm(all))
		}
	}
}
