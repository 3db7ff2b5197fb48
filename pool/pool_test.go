package pool

import (
	"maps"
	"math"
	"math/rand"
	"slices"
	"strings"
	"testing"
	"unsafe"

	"footplate/api"
)

// adds is what an Add tells.
func adds(p *Pool, what any) (int, api.Errno) {
	switch x := what.(type) {
	case int:
		return p.AddInt(x)
	case string:
		return p.AddText(x)
	}
	return p.AddHop(what.(api.Hop))
}

// added asks for the number that an Add tells, and for what is there behind it.
func added(t *testing.T, p *Pool, what any, want int) {
	t.Helper()
	n := p.Len()
	if id, e := adds(p, what); id != want || e != api.OK {
		t.Errorf("Add of %v tells %d, %d, not %d", what, id, e, want)
	}
	is(t, p, want, what, 1)
	counts(t, p, n+1)
}

// refused asks for the error of each Add, that changes nothing.
func refused(t *testing.T, p *Pool, want api.Errno) {
	t.Helper()
	n := p.Len()
	for _, what := range []any{0, 7, "", "text", api.Hop{}, api.Hop{Labels: []int{16}, Repair: []int{17}, Backup: -1}} {
		if id, e := adds(p, what); id != 0 || e != want {
			t.Errorf("Add of %v tells %d, %d, not %d", what, id, e, want)
		}
	}
	counts(t, p, n)
}

// refs asks for Ref's answer, and Uses behind it.
func refs(t *testing.T, p *Pool, id int, want api.Errno) {
	t.Helper()
	n, after := p.Len(), p.Uses(id)
	if want == api.OK {
		after++
	}
	if e := p.Ref(id); e != want {
		t.Errorf("Ref(%d) tells %d, not %d", id, e, want)
	}
	uses(t, p, id, after)
	counts(t, p, n)
}

// unrefs asks for Unref's answer, and Uses and Len behind it.
func unrefs(t *testing.T, p *Pool, id int, gone bool, want api.Errno) {
	t.Helper()
	n, after := p.Len(), p.Uses(id)
	if want == api.OK {
		after--
	}
	if gone {
		n--
	}
	if g, e := p.Unref(id); g != gone || e != want {
		t.Errorf("Unref(%d) tells %v, %d, not %v, %d", id, g, e, gone, want)
	}
	uses(t, p, id, after)
	counts(t, p, n)
	if gone {
		lacks(t, p, id)
	}
}

// uses asks for Uses.
func uses(t *testing.T, p *Pool, id, want int) {
	t.Helper()
	if n := p.Uses(id); n != want {
		t.Errorf("Uses(%d) is %d, not %d", id, n, want)
	}
}

// counts asks for Len.
func counts(t *testing.T, p *Pool, want int) {
	t.Helper()
	if n := p.Len(); n != want {
		t.Errorf("Len is %d, not %d", n, want)
	}
}

// same tells whether two hops are the same; nil and empty lists are one.
func same(a, b api.Hop) bool {
	return a.Op == b.Op && a.Port == b.Port && a.Backup == b.Backup && a.Pipe == b.Pipe && slices.Equal(a.Labels, b.Labels) && slices.Equal(a.Repair, b.Repair)
}

// is asks for a thing by all functions: it is there as one of its kind, and as none of the others. Without one (nil) there is nothing.
func is(t *testing.T, p *Pool, id int, what any, used int) {
	t.Helper()
	number, isInt := what.(int)
	text, isText := what.(string)
	hop, isHop := what.(api.Hop)
	if n, ok := p.Int(id); n != number || ok != isInt {
		t.Errorf("Int(%d) is %d, %v; there is %v", id, n, ok, what)
	}
	if s, ok := p.Text(id); s != text || ok != isText {
		t.Errorf("Text(%d) is %q, %v; there is %v", id, s, ok, what)
	}
	if h, ok := p.Hop(id); !same(h, hop) || ok != isHop {
		t.Errorf("Hop(%d) is %v, %v; there is %v", id, h, ok, what)
	}
	sums(t, p, []int{id}, number, isInt)
	uses(t, p, id, used)
}

// lacks asks for a thing that there isn't.
func lacks(t *testing.T, p *Pool, id int) {
	t.Helper()
	is(t, p, id, nil, 0)
}

// sums asks for Sum.
func sums(t *testing.T, p *Pool, ids []int, want int, is bool) {
	t.Helper()
	before := slices.Clone(ids)
	if n, ok := p.Sum(ids); n != want || ok != is {
		t.Errorf("Sum(%v) is %d, %v, not %d, %v", ids, n, ok, want, is)
	}
	if !slices.Equal(ids, before) {
		t.Errorf("Sum changes %v to %v", before, ids)
	}
}

// filled is a pool of so many numbers, each ten times its id, and one above.
func filled(t *testing.T, room, n int) *Pool {
	t.Helper()
	p := New(room)
	for i := range n {
		if id, e := p.AddInt(10*i + 1); id != i || e != api.OK {
			t.Fatalf("Add %d tells %d, %d", i, id, e)
		}
	}
	return p
}

// none is ids that no thing of a pool of so many has.
func none(n int) []int {
	return []int{-1, -2, -64, -65, math.MinInt, math.MinInt + 1, -1 << 32, n, n + 1, n + 63, n + 64, n + 65, 65535 + n, 65536 + n, 1 << 32, 1<<32 + 1, math.MaxInt - 63, math.MaxInt}
}

// hops is hops that may be, and such that may not; the pool takes them all.
func hops() []api.Hop {
	return []api.Hop{
		{},
		{Op: api.Swap, Labels: []int{17, 18}, Port: 2, Backup: 3, Repair: []int{19}, Pipe: true},
		{Op: api.Push, Labels: []int{16007}, Port: 1, Backup: -1},
		{Op: api.Pop, Port: 63, Backup: 0, Repair: []int{16, 17}},
		{Op: api.Here, Backup: -1},
		{Op: -7, Labels: []int{-1, math.MaxInt, math.MinInt}, Port: -1, Backup: -9, Repair: make([]int, 40)},
		{Op: math.MaxInt, Labels: make([]int, 100), Port: math.MinInt, Backup: math.MaxInt},
	}
}

// P14.1: the chapter's example.
func TestExample(t *testing.T) {
	p := New(10)
	added(t, p, "a", 0)
	added(t, p, 5, 1)
	unrefs(t, p, 0, true, api.OK)
	added(t, p, api.Hop{Op: api.Here, Backup: -1}, 0)
	added(t, p, "b", 2)
}

// P14.1: a pool, just if the room is 1 to 65536, and there is nothing in it.
func TestNew(t *testing.T) {
	for _, room := range []int{math.MinInt, -1 << 32, -65536, -2, -1, 0, 65537, 65538, 1 << 17, 1 << 32, 1<<32 + 1, math.MaxInt} {
		if New(room) != nil {
			t.Errorf("there is a pool with room %d", room)
		}
	}
	for _, room := range []int{1, 2, 63, 64, 65, 65535, 65536} {
		p := New(room)
		if p == nil {
			t.Fatalf("there is no pool with room %d", room)
		}
		counts(t, p, 0)
		for _, id := range none(0) {
			lacks(t, p, id)
			refs(t, p, id, api.ErrNone)
			unrefs(t, p, id, false, api.ErrNone)
		}
		sums(t, p, nil, 0, true)
		added(t, p, "", 0)
	}
}

// P14.1: two pools have nothing in common.
func TestTwoPools(t *testing.T) {
	p, q := New(3), New(3)
	added(t, p, 1, 0)
	counts(t, q, 0)
	lacks(t, q, 0)
	added(t, q, "x", 0)
	refs(t, q, 0, api.OK)
	is(t, p, 0, 1, 1)
	unrefs(t, p, 0, true, api.OK)
	is(t, q, 0, "x", 2)
}

// P14.1: a pool takes as many things as there is room for, of whatever kinds, and no more.
func TestRooms(t *testing.T) {
	kinds := []any{4, "t", hops()[1]}
	for room := 1; room <= 200; room++ {
		p := New(room)
		for i := range room {
			added(t, p, kinds[i%3], i)
		}
		refused(t, p, api.ErrFull)
		for i := range room {
			is(t, p, i, kinds[i%3], 1)
		}
		for _, id := range none(room) {
			lacks(t, p, id)
		}
	}
}

// P14.1: the greatest rooms, up to the last thing that there is room for, and one more; behind each that goes one fits.
func TestGreatRooms(t *testing.T) {
	for _, room := range []int{65535, 65536} {
		p := filled(t, room, room)
		refused(t, p, api.ErrFull)
		for _, id := range []int{0, room - 1, 63, 64, 40000} {
			unrefs(t, p, id, true, api.OK)
			added(t, p, "again", id)
			refused(t, p, api.ErrFull)
		}
		for i := range room {
			if n, is := p.Int(i); is && n != 10*i+1 {
				t.Fatalf("Int(%d) is %d", i, n)
			}
		}
		for _, id := range none(room) {
			lacks(t, p, id)
		}
	}
}

// P14.1: a full pool that is emptied is as good as a new one, over and over.
func TestFullAndGone(t *testing.T) {
	for _, room := range []int{1, 2, 64, 65, 300} {
		p := New(room)
		for turn := range 20 {
			for i := range room {
				added(t, p, turn-i, i)
			}
			refused(t, p, api.ErrFull)
			for i := range room {
				unrefs(t, p, (i*7919+turn)%room, true, api.OK)
			}
			counts(t, p, 0)
		}
	}
}

// P14.1: the next thing has the lowest number that none has, whichever went, in whatever order.
func TestNumbers(t *testing.T) {
	cases := [][]int{nil, {0}, {3}, {9}, {8, 9}, {9, 8}, {0, 9}, {9, 0}, {5, 2, 7}, {7, 5, 2}, {2, 5, 7}, {0, 1, 2}, {2, 1, 0}, {9, 4, 0, 5, 1}, {0, 1, 2, 3, 4, 5, 6, 7, 8, 9}, {9, 8, 7, 6, 5, 4, 3, 2, 1, 0}}
	for _, gone := range cases {
		p := filled(t, 20, 10)
		for _, id := range gone {
			unrefs(t, p, id, true, api.OK)
		}
		for i, id := range slices.Sorted(slices.Values(gone)) {
			added(t, p, -i, id)
		}
		added(t, p, "new", 10)
		added(t, p, "newer", 11)
	}
}

// P14.1: the same beyond 64 things, where rows of numbers end.
func TestNumbersAtRows(t *testing.T) {
	for _, n := range []int{63, 64, 65, 127, 128, 129, 4096} {
		p := filled(t, n+2, n)
		for _, id := range []int{n - 1, n / 2, 0, n - 2, 7} {
			unrefs(t, p, id, true, api.OK)
		}
		want := []int{0, 7, n / 2, n - 2, n - 1}
		for _, id := range want {
			added(t, p, "x", id)
		}
		added(t, p, "y", n)
		added(t, p, "z", n+1)
		refused(t, p, api.ErrFull)
	}
}

// P14.1: a number is free just if its thing is gone, not while it is used at all.
func TestNumberWhileUsed(t *testing.T) {
	p := New(4)
	added(t, p, "a", 0)
	refs(t, p, 0, api.OK)
	unrefs(t, p, 0, false, api.OK)
	added(t, p, "b", 1)
	unrefs(t, p, 0, true, api.OK)
	added(t, p, "c", 0)
	added(t, p, "d", 2)
}

// P14.1: things that are the same are several, each with its own number and uses.
func TestSameThings(t *testing.T) {
	for _, what := range []any{0, -3, "", "é", hops()[0], hops()[1]} {
		p := New(3)
		added(t, p, what, 0)
		added(t, p, what, 1)
		refs(t, p, 1, api.OK)
		is(t, p, 0, what, 1)
		is(t, p, 1, what, 2)
		unrefs(t, p, 0, true, api.OK)
		is(t, p, 1, what, 2)
	}
}

// P14.2: what is used once, twice or more often goes with the last use, and once only.
func TestUses(t *testing.T) {
	for _, what := range []any{5, "text", hops()[1]} {
		for more := range 6 {
			p := New(2)
			added(t, p, "beside", 0)
			added(t, p, what, 1)
			for range more {
				refs(t, p, 1, api.OK)
			}
			is(t, p, 1, what, more+1)
			for i := range more {
				unrefs(t, p, 1, false, api.OK)
				is(t, p, 1, what, more-i)
			}
			unrefs(t, p, 1, true, api.OK)
			unrefs(t, p, 1, false, api.ErrNone)
			refs(t, p, 1, api.ErrNone)
			is(t, p, 0, "beside", 1)
		}
	}
}

// P14.2: uses up and down, never to none, leave it there.
func TestUpAndDown(t *testing.T) {
	p := New(1)
	added(t, p, "x", 0)
	for range 1000 {
		refs(t, p, 0, api.OK)
		refs(t, p, 0, api.OK)
		unrefs(t, p, 0, false, api.OK)
	}
	is(t, p, 0, "x", 1001)
	refused(t, p, api.ErrFull)
}

// P14.2: of an id that no thing has nothing is told, and nothing changes: below 0, above all, never had, and gone.
func TestNone(t *testing.T) {
	p := filled(t, 70, 66)
	unrefs(t, p, 3, true, api.OK)
	unrefs(t, p, 65, true, api.OK)
	for _, id := range append(none(66), 3, 65) {
		refs(t, p, id, api.ErrNone)
		unrefs(t, p, id, false, api.ErrNone)
		lacks(t, p, id)
	}
	for i := range 65 {
		if i != 3 {
			is(t, p, i, 10*i+1, 1)
		}
	}
	counts(t, p, 64)
}

// P14.2: a thing that has the number of one that went has uses of its own, from 1 on.
func TestUsesOfTheNext(t *testing.T) {
	p := New(2)
	added(t, p, "a", 0)
	refs(t, p, 0, api.OK)
	refs(t, p, 0, api.OK)
	for i := range 3 {
		unrefs(t, p, 0, i == 2, api.OK)
	}
	added(t, p, 8, 0)
	unrefs(t, p, 0, true, api.OK)
	added(t, p, hops()[2], 0)
	is(t, p, 0, hops()[2], 1)
}

// P14.3: each thing is there as one of its kind, whatever it is, empty ones too.
func TestKinds(t *testing.T) {
	things := []any{0, 1, -1, math.MaxInt, math.MinInt, "", "a", "é", "\x00\xff", "5", strings.Repeat("long ", 20000)}
	for _, h := range hops() {
		things = append(things, h)
	}
	p := New(len(things))
	for i, what := range things {
		added(t, p, what, i)
	}
	for i, what := range things {
		is(t, p, i, what, 1)
	}
	for i := range things {
		unrefs(t, p, i, true, api.OK)
	}
}

// P14.3: a number takes the place of a text, and the other way about, with nothing left of what went.
func TestOtherKind(t *testing.T) {
	p := New(1)
	for range 3 {
		for _, what := range []any{6, "six", hops()[1], "", 0, hops()[0]} {
			added(t, p, what, 0)
			unrefs(t, p, 0, true, api.OK)
		}
	}
}

// P14.3: sums of none, one, several, and the same ids again.
func TestSum(t *testing.T) {
	p := New(5)
	for i, n := range []int{7, -20, 0, math.MaxInt, math.MinInt} {
		added(t, p, n, i)
	}
	cases := []struct {
		ids  []int
		want int
	}{
		{nil, 0}, {[]int{}, 0}, {[]int{0}, 7}, {[]int{1}, -20}, {[]int{2}, 0}, {[]int{0, 1}, -13}, {[]int{1, 0, 2}, -13},
		{[]int{0, 0}, 14}, {[]int{1, 1, 1, 0, 0}, -46}, {[]int{2, 2, 2}, 0},
		{[]int{3}, math.MaxInt}, {[]int{3, 4}, -1}, {[]int{3, 3}, -2}, {[]int{4, 4}, 0}, {[]int{3, 0}, math.MinInt + 6}, {[]int{4, 1}, math.MaxInt - 19}, {[]int{3, 3, 3}, math.MaxInt - 2}, {[]int{4, 3, 0, 4}, math.MinInt + 6},
	}
	for _, c := range cases {
		sums(t, p, c.ids, c.want, true)
	}
	refs(t, p, 0, api.OK)
	sums(t, p, []int{0}, 7, true)
}

// P14.3: of one that is no number, wherever it stands, there is no sum; behind that there are sums again.
func TestSumOfNone(t *testing.T) {
	p := New(6)
	for i, what := range []any{1, 2, "3", hops()[1], 5, 6} {
		added(t, p, what, i)
	}
	unrefs(t, p, 5, true, api.OK)
	for _, bad := range append(none(6), 2, 3, 5) {
		for _, ids := range [][]int{{bad}, {bad, 0}, {0, bad}, {0, bad, 1}, {0, 1, 4, bad}, {bad, bad}} {
			sums(t, p, ids, 0, false)
		}
		sums(t, p, []int{0, 1, 4}, 8, true)
	}
	counts(t, p, 5)
	for _, p := range []*Pool{New(1), {}} {
		sums(t, p, nil, 0, true)
		sums(t, p, []int{0}, 0, false)
	}
}

// P14.3: a sum of many.
func TestLongSum(t *testing.T) {
	p := filled(t, api.MaxTable, api.MaxTable)
	var ids []int
	want := 0
	for i := range 300000 {
		id := i * 7919 % api.MaxTable
		ids = append(ids, id)
		want += 10*id + 1
	}
	sums(t, p, ids, want, true)
	sums(t, p, append(ids, api.MaxTable), 0, false)
}

// P14.4: of nil Adds, Ref and Unref tell ErrArg, whatever they are asked for, and all others nothing.
func TestNil(t *testing.T) {
	var p *Pool
	refused(t, p, api.ErrArg)
	for _, id := range append(none(0), 0) {
		refs(t, p, id, api.ErrArg)
		unrefs(t, p, id, false, api.ErrArg)
		lacks(t, p, id)
		sums(t, p, []int{0, id}, 0, false)
	}
	sums(t, p, nil, 0, false)
	sums(t, p, []int{}, 0, false)
	counts(t, p, 0)
}

// A pool that New didn't make has no room, and answers all the same.
func TestEmptyPool(t *testing.T) {
	p := &Pool{}
	refused(t, p, api.ErrFull)
	refs(t, p, 0, api.ErrNone)
	unrefs(t, p, 0, false, api.ErrNone)
	lacks(t, p, 0)
	counts(t, p, 0)
}

// withRoom is a list that has room behind its end, full of nines.
func withRoom(l ...int) []int {
	long := append(slices.Clone(l), 9, 9, 9, 9)
	return long[:len(l):len(long)]
}

// roomLeft tells whether the room behind a list's end is as it was.
func roomLeft(l []int) bool {
	return slices.Equal(l[len(l):cap(l)], []int{9, 9, 9, 9})
}

// P14.5: what the caller does with a hop's lists behind AddHop changes nothing of it.
func TestAddedHop(t *testing.T) {
	p := New(2)
	h := api.Hop{Op: api.Swap, Labels: withRoom(17, 18), Port: 1, Backup: 2, Repair: withRoom(19)}
	want := api.Hop{Op: api.Swap, Labels: []int{17, 18}, Port: 1, Backup: 2, Repair: []int{19}}
	added(t, p, h, 0)
	if !roomLeft(h.Labels) || !roomLeft(h.Repair) || !same(h, want) {
		t.Errorf("AddHop changes what it is given to %v", h)
	}
	h.Labels[0], h.Labels[1], h.Repair[0] = 0, 1, 2
	h.Labels = append(h.Labels, 3)
	h.Port = 60
	is(t, p, 0, want, 1)
	shared := []int{20, 21, 22, 23}
	added(t, p, api.Hop{Labels: shared[:2], Repair: shared[1:]}, 1)
	clear(shared)
	is(t, p, 1, api.Hop{Labels: []int{20, 21}, Repair: []int{21, 22, 23}}, 1)
}

// P14.5: what the caller of Hop does with it changes nothing of what is there, nor of what others were handed.
func TestHandedHop(t *testing.T) {
	p := New(1)
	want := api.Hop{Op: api.Swap, Labels: []int{17, 18, 19}, Port: 1, Backup: 2, Repair: []int{20, 21, 22}}
	added(t, p, want, 0)
	a, _ := p.Hop(0)
	b, _ := p.Hop(0)
	wipe(a.Labels)
	if !slices.Equal(a.Repair, want.Repair) {
		t.Errorf("Labels and Repair share what is told: %v", a)
	}
	wipe(a.Repair)
	if !same(b, want) {
		t.Errorf("two hops that were handed out share: %v", b)
	}
	is(t, p, 0, want, 1)
}

// P14.5: nor does what becomes of the bytes of a text that was given.
func TestAddedText(t *testing.T) {
	b := []byte("text")
	p := New(1)
	added(t, p, unsafe.String(&b[0], len(b)), 0)
	clear(b)
	is(t, p, 0, "text", 1)
}

// wipe overwrites a list, and the room behind its end.
func wipe(l []int) { clear(l[:cap(l)]) }

// P14.5: what was handed out stays when the thing goes, and another takes its number.
func TestHandedStays(t *testing.T) {
	p := New(2)
	want := hops()[1]
	added(t, p, want, 0)
	added(t, p, "text", 1)
	h, _ := p.Hop(0)
	s, _ := p.Text(1)
	unrefs(t, p, 0, true, api.OK)
	unrefs(t, p, 1, true, api.OK)
	added(t, p, api.Hop{Labels: []int{1, 2}, Repair: []int{3}}, 0)
	added(t, p, "next", 1)
	if !same(h, want) || s != "text" {
		t.Errorf("what was handed out is now %v, %q", h, s)
	}
}

// P14.5: nothing is kept of what went.
func TestNothingKept(t *testing.T) {
	p := New(100)
	for i, h := range hops() {
		added(t, p, h, 2*i)
		added(t, p, "text", 2*i+1)
	}
	for id := range p.Len() {
		unrefs(t, p, id, true, api.OK)
	}
	for id, x := range p.things {
		if x != (thing{}) {
			t.Errorf("%d is gone, and keeps %v", id, x)
		}
	}
}

// one is a thing of the model, and how often it is used.
type one struct {
	what any
	uses int
}

// model is a pool as the chapter tells it: a map.
type model struct {
	room   int
	things map[int]one
}

// add is an Add, as the chapter tells it.
func (m *model) add(what any) (int, api.Errno) {
	if len(m.things) == m.room {
		return 0, 30
	}
	id := 0
	for m.things[id].uses > 0 {
		id++
	}
	m.things[id] = one{what, 1}
	return id, 0
}

// use is Ref (1) or Unref (-1), as the chapter tells it.
func (m *model) use(id, more int) (bool, api.Errno) {
	x, is := m.things[id]
	if !is {
		return false, 31
	}
	x.uses += more
	m.things[id] = x
	if x.uses > 0 {
		return false, 0
	}
	delete(m.things, id)
	return true, 0
}

// sum is Sum, as the chapter tells it.
func (m *model) sum(ids []int) (int, bool) {
	sum := 0
	for _, id := range ids {
		n, is := m.things[id].what.(int)
		if !is {
			return 0, false
		}
		sum += n
	}
	return sum, true
}

// drawn is a thing of any kind.
func drawn(r *rand.Rand) any {
	switch r.Intn(4) {
	case 0:
		return strings.Repeat("x", r.Intn(4))
	case 1:
		return hops()[r.Intn(len(hops()))]
	}
	return int(r.Uint64())
}

// step does one drawn thing to a pool and to its model.
func step(t *testing.T, p *Pool, m *model, r *rand.Rand) {
	t.Helper()
	id := r.Intn(m.room+3) - 1
	switch r.Intn(8) {
	case 0, 1, 2:
		what := drawn(r)
		want, bad := m.add(what)
		if got, e := adds(p, what); got != want || e != bad {
			t.Errorf("Add of %v tells %d, %d, not %d, %d", what, got, e, want, bad)
		}
	case 3, 4:
		_, bad := m.use(id, 1)
		refs(t, p, id, bad)
	case 5, 6:
		gone, bad := m.use(id, -1)
		unrefs(t, p, id, gone, bad)
	case 7:
		var ids []int
		for range r.Intn(4) {
			ids = append(ids, r.Intn(m.room+1))
		}
		want, is := m.sum(ids)
		sums(t, p, ids, want, is)
	}
}

// P14.1, P14.2, P14.3, P14.5: drawn steps, as the model answers them: a thing is there as long as it was used oftener than it was let go.
func TestModel(t *testing.T) {
	for seed := range int64(100) {
		r := rand.New(rand.NewSource(seed))
		m := &model{room: 1 + r.Intn(1+int(seed)), things: map[int]one{}}
		p := New(m.room)
		for range 300 {
			step(t, p, m, r)
			counts(t, p, len(m.things))
			for id := -1; id <= m.room+1; id++ {
				is(t, p, id, m.things[id].what, m.things[id].uses)
			}
			if t.Failed() {
				t.Fatalf("seed %d", seed)
			}
		}
	}
}

// P14.5: refused calls and mere questions change nothing.
func TestAskingChangesNothing(t *testing.T) {
	p := New(3)
	want := map[int]one{0: {4, 1}, 1: {"t", 2}, 2: {hops()[1], 1}}
	for _, id := range slices.Sorted(maps.Keys(want)) {
		added(t, p, want[id].what, id)
	}
	refs(t, p, 1, api.OK)
	for range 50 {
		refused(t, p, api.ErrFull)
		for _, id := range none(3) {
			refs(t, p, id, api.ErrNone)
			unrefs(t, p, id, false, api.ErrNone)
			sums(t, p, []int{0, id}, 0, false)
		}
		for id, x := range want {
			is(t, p, id, x.what, x.uses)
		}
		counts(t, p, 3)
	}
}
