package slots

import (
	"math"
	"math/rand"
	"slices"
	"testing"

	"footplate/api"
)

// wrong is labels that may not be in a table; some of them have the bits of one that may.
func wrong() []int {
	return []int{
		-1, api.MaxLabel + 1, -2, -16, -api.MaxLabel, -api.MaxLabel - 1, api.MaxLabel + 2, api.MaxLabel + 17,
		1<<32 - 1, 1 << 32, 1<<32 + 16, 1<<32 + api.MaxLabel, -1 << 32, -1<<32 + 16, 1<<63 - 1<<20, math.MinInt + 16, math.MinInt, math.MaxInt,
	}
}

// row is items of labels, with values from 1 on.
func row(labels ...int) []Item {
	var items []Item
	for i, label := range labels {
		items = append(items, Item{Label: label, Value: i + 1})
	}
	return items
}

// rising is items by rising labels.
func rising(items []Item) []Item {
	l := slices.Clone(items)
	slices.SortFunc(l, func(a, b Item) int { return a.Label - b.Label })
	return l
}

// filled is a table of items, put in that order.
func filled(t *testing.T, room int, items []Item) *Table {
	t.Helper()
	x := New(room)
	for _, item := range items {
		puts(t, x, item.Label, item.Value, api.OK)
	}
	return x
}

// puts asks for Put's answer, and Len behind it; with an error nothing may have changed.
func puts(t *testing.T, x *Table, label, value int, want api.Errno) {
	t.Helper()
	before := x.All()
	after := len(before)
	if _, is := x.Get(label); want == api.OK && !is {
		after++
	}
	if e := x.Put(label, value); e != want {
		t.Errorf("Put(%d, %d) tells %d, not %d", label, value, e, want)
	}
	if want == api.OK {
		gets(t, x, label, value)
	} else {
		holds(t, x, before)
	}
	counts(t, x, after)
	sound(t, x)
}

// deletes asks for Delete's answer, and Len behind it; with an error nothing may have changed.
func deletes(t *testing.T, x *Table, label int, want api.Errno) {
	t.Helper()
	before := x.All()
	if e := x.Delete(label); e != want {
		t.Errorf("Delete(%d) tells %d, not %d", label, e, want)
	}
	if want == api.OK {
		counts(t, x, len(before)-1)
	} else {
		holds(t, x, before)
	}
	lacks(t, x, label)
	sound(t, x)
}

// gets asks for a value that is there.
func gets(t *testing.T, x *Table, label, value int) {
	t.Helper()
	if v, is := x.Get(label); v != value || !is {
		t.Errorf("Get(%d) is %d, %v, not %d", label, v, is, value)
	}
}

// lacks asks for a value that isn't there.
func lacks(t *testing.T, x *Table, label int) {
	t.Helper()
	if v, is := x.Get(label); v != 0 || is {
		t.Errorf("Get(%d) is %d, %v, not nothing", label, v, is)
	}
}

// counts asks for Len.
func counts(t *testing.T, x *Table, want int) {
	t.Helper()
	if n := x.Len(); n != want {
		t.Errorf("Len is %d, not %d", n, want)
	}
}

// holds asks for All, Len, and each value.
func holds(t *testing.T, x *Table, want []Item) {
	t.Helper()
	if got := x.All(); !slices.Equal(got, want) {
		t.Errorf("All is %v, not %v", got, want)
	}
	counts(t, x, len(want))
	for _, item := range want {
		gets(t, x, item.Label, item.Value)
	}
}

// sound asks whether each label stands where it is looked for, once, and nothing is kept of those that went.
func sound(t *testing.T, x *Table) {
	t.Helper()
	if x == nil {
		return
	}
	count := 0
	for place, s := range x.slots {
		if !s.held {
			if s != (slot{}) {
				t.Errorf("place %d is free, and keeps %v", place, s)
			}
			continue
		}
		count++
		if at, is := x.find(s.item.Label); at != place || !is {
			t.Errorf("label %d stands at %d, and is looked for at %d, %v", s.item.Label, place, at, is)
		}
	}
	if count != x.count || count > x.room {
		t.Errorf("there are %d labels, not %d, of room %d", count, x.count, x.room)
	}
}

// sharers is n labels of a table that are looked for first in the same place.
func sharers(t *testing.T, x *Table, place, n int) []int {
	t.Helper()
	var labels []int
	for label := 0; label <= api.MaxLabel && len(labels) < n; label++ {
		if x.home(label) == place {
			labels = append(labels, label)
		}
	}
	if len(labels) < n {
		t.Fatalf("only %d labels share place %d", len(labels), place)
	}
	return labels
}

// orders is all orders of the numbers below n.
func orders(n int) [][]int {
	if n == 0 {
		return [][]int{nil}
	}
	var all [][]int
	for _, o := range orders(n - 1) {
		for i := range n {
			all = append(all, slices.Insert(slices.Clone(o), i, n-1))
		}
	}
	return all
}

// P13.2: the chapter's example.
func TestExample(t *testing.T) {
	x := New(2)
	puts(t, x, 100, 1, api.OK)
	puts(t, x, 200, 2, api.OK)
	puts(t, x, 300, 3, api.ErrFull)
	puts(t, x, 100, 4, api.OK)
	puts(t, x, 200, 5, api.OK)
	holds(t, x, []Item{{100, 4}, {200, 5}})
}

// P13.1: a table, just if the room is 1 to 65536, and there is nothing in it.
func TestNew(t *testing.T) {
	for _, room := range []int{math.MinInt, -1 << 32, -65536, -2, -1, 0, 65537, 65538, 1 << 17, 1 << 20, 1 << 32, 1<<32 + 1, math.MaxInt} {
		if New(room) != nil {
			t.Errorf("there is a table with room %d", room)
		}
	}
	for _, room := range []int{1, 2, 3, 4, 5, 1023, 1024, 1025, 32768, 32769, 65535, 65536} {
		x := New(room)
		if x == nil {
			t.Fatalf("there is no table with room %d", room)
		}
		holds(t, x, nil)
		for _, label := range []int{0, 1, 15, 16, api.MaxLabel} {
			lacks(t, x, label)
			deletes(t, x, label, api.ErrNone)
		}
		puts(t, x, 0, 1, api.OK)
		holds(t, x, []Item{{0, 1}})
	}
}

// P13.1: two tables have nothing in common.
func TestTwoTables(t *testing.T) {
	x, y := New(3), New(3)
	puts(t, x, 16, 1, api.OK)
	holds(t, y, nil)
	puts(t, y, 16, 2, api.OK)
	deletes(t, y, 16, api.OK)
	holds(t, x, []Item{{16, 1}})
}

// P13.1, P13.2: a table takes as many labels as there is room for, and no more.
func TestRooms(t *testing.T) {
	for room := 1; room <= 20; room++ {
		x := New(room)
		for i := range room {
			puts(t, x, i*7919, i, api.OK)
		}
		for _, label := range []int{1, room * 7919, api.MaxLabel} {
			puts(t, x, label, 1, api.ErrFull)
			lacks(t, x, label)
		}
	}
}

// P13.1, P13.2: the greatest rooms, up to the last label that there is room for, and one more.
func TestGreatRooms(t *testing.T) {
	steps := []struct{ first, step, other int }{{0, 1, 65536}, {api.MaxLabel, -1, 0}, {0, 16, api.MaxLabel}, {15, 16, 0}, {3, 5, 4}, {16, 7, 15}}
	for _, room := range []int{65535, 65536} {
		for _, s := range steps {
			x := New(room)
			for i := range room {
				if e := x.Put(s.first+i*s.step, -i); e != api.OK {
					t.Fatalf("room %d, %v: %d tells %d", room, s, i, e)
				}
			}
			counts(t, x, room)
			if e := x.Put(s.other, 1); e != api.ErrFull {
				t.Errorf("room %d, %v: one more tells %d", room, s, e)
			}
			for i := range room {
				if v, is := x.Get(s.first + i*s.step); v != -i || !is {
					t.Fatalf("room %d, %v: Get of %d is %d, %v", room, s, i, v, is)
				}
			}
			sound(t, x)
		}
	}
}

// P13.2: one more than the greatest room, till one goes.
func TestOneMore(t *testing.T) {
	x := New(api.MaxTable)
	for i := range api.MaxTable {
		if e := x.Put(2*i, i); e != api.OK {
			t.Fatalf("Put of %d tells %d", 2*i, e)
		}
	}
	for _, label := range []int{1, 131071, 131072, api.MaxLabel} {
		puts(t, x, label, 5, api.ErrFull)
		deletes(t, x, label, api.ErrNone)
	}
	puts(t, x, 0, 7, api.OK)
	puts(t, x, 131070, 8, api.OK)
	deletes(t, x, 4096, api.OK)
	puts(t, x, 131071, 9, api.OK)
	puts(t, x, 4096, 10, api.ErrFull)
	counts(t, x, api.MaxTable)
}

// P13.2, P13.3: the labels that may be, at both ends.
func TestLabels(t *testing.T) {
	for _, room := range []int{4, 1000, 65536} {
		x := New(room)
		for i, label := range []int{0, api.MaxLabel, 1, api.MaxLabel - 1} {
			deletes(t, x, label, api.ErrNone)
			lacks(t, x, label)
			puts(t, x, label, i+1, api.OK)
		}
		for _, label := range wrong() {
			puts(t, x, label, 5, api.ErrLabel)
			deletes(t, x, label, api.ErrLabel)
			lacks(t, x, label)
		}
		holds(t, x, []Item{{0, 1}, {1, 3}, {api.MaxLabel - 1, 4}, {api.MaxLabel, 2}})
		deletes(t, x, 0, api.OK)
		deletes(t, x, api.MaxLabel, api.OK)
		holds(t, x, []Item{{1, 3}, {api.MaxLabel - 1, 4}})
	}
}

// P13.2, P13.3: a label that is 0, or has the value 0, is none that isn't there.
func TestNought(t *testing.T) {
	for _, room := range []int{1, 2, 9} {
		x := New(room)
		lacks(t, x, 0)
		puts(t, x, 0, 0, api.OK)
		gets(t, x, 0, 0)
		holds(t, x, []Item{{0, 0}})
		deletes(t, x, 0, api.OK)
		holds(t, x, nil)
		deletes(t, x, 0, api.ErrNone)
	}
}

// P13.2: a wrong label is told as such, whether the table is empty, full, or neither.
func TestOrder(t *testing.T) {
	for _, x := range []*Table{New(1), filled(t, 3, row(16, 17)), filled(t, 2, row(16, 17)), filled(t, 1, row(0))} {
		for _, label := range wrong() {
			puts(t, x, label, 1, api.ErrLabel)
			deletes(t, x, label, api.ErrLabel)
			lacks(t, x, label)
		}
	}
}

// P13.2: whatever the value is, it is there.
func TestValues(t *testing.T) {
	values := []int{0, -1, 1, math.MaxInt, math.MinInt, 1 << 32, api.MaxLabel, -api.MaxLabel}
	x := New(len(values))
	var want []Item
	for i, v := range values {
		puts(t, x, 16+i, v, api.OK)
		want = append(want, Item{16 + i, v})
		holds(t, x, want)
	}
	y := New(1)
	for _, v := range values {
		puts(t, y, 99, v, api.OK)
		holds(t, y, []Item{{99, v}})
	}
}

// P13.2: one that is there takes another value, with room and without, wherever it stands.
func TestPutTwice(t *testing.T) {
	for _, room := range []int{5, 6, 100} {
		x := New(room)
		labels := sharers(t, x, 2, 5)
		for i, label := range labels {
			puts(t, x, label, i, api.OK)
		}
		for i, label := range labels {
			puts(t, x, label, 50+i, api.OK)
			puts(t, x, label, 60+i, api.OK)
		}
		var want []Item
		for i, label := range labels {
			want = append(want, Item{label, 60 + i})
		}
		holds(t, x, want)
	}
}

// P13.2: what is there goes once; behind it one more fits.
func TestDelete(t *testing.T) {
	x := filled(t, 4, row(100, 7, 5000, 16))
	puts(t, x, 8, 9, api.ErrFull)
	deletes(t, x, 8, api.ErrNone)
	deletes(t, x, 5000, api.OK)
	deletes(t, x, 5000, api.ErrNone)
	deletes(t, x, 5001, api.ErrNone)
	holds(t, x, []Item{{7, 2}, {16, 4}, {100, 1}})
	puts(t, x, 8, 9, api.OK)
	puts(t, x, 5000, 3, api.ErrFull)
	holds(t, x, []Item{{7, 2}, {8, 9}, {16, 4}, {100, 1}})
	for _, label := range []int{7, 8, 16, 100} {
		deletes(t, x, label, api.OK)
		deletes(t, x, label, api.ErrNone)
	}
	holds(t, x, nil)
}

// P13.2: a label that is put, deleted and put again has its new value, and takes room once.
func TestAgain(t *testing.T) {
	x := filled(t, 3, row(20, 30))
	for i := range 100 {
		puts(t, x, 40, i, api.OK)
		puts(t, x, 50, i, api.ErrFull)
		deletes(t, x, 40, api.OK)
		lacks(t, x, 40)
	}
	puts(t, x, 40, -5, api.OK)
	holds(t, x, []Item{{20, 1}, {30, 2}, {40, -5}})
}

// P13.3: All rises, whatever order the labels came in.
func TestAll(t *testing.T) {
	items := row(900000, 16, 0, api.MaxLabel, 17)
	for _, o := range orders(len(items)) {
		var came []Item
		for _, i := range o {
			came = append(came, items[i])
		}
		holds(t, filled(t, 5, came), rising(items))
	}
	if l := New(7).All(); len(l) != 0 {
		t.Errorf("All of a table without labels is %v", l)
	}
	x := filled(t, 7, items)
	for _, item := range items {
		deletes(t, x, item.Label, api.OK)
	}
	if l := x.All(); len(l) != 0 {
		t.Errorf("All of a table whose labels went is %v", l)
	}
}

// P13.3: of nil there is nothing, and nothing can be laid in, whatever the label is.
func TestNil(t *testing.T) {
	var x *Table
	for _, label := range append(wrong(), 0, 1, 16, api.MaxLabel) {
		puts(t, x, label, 1, api.ErrArg)
		deletes(t, x, label, api.ErrArg)
		lacks(t, x, label)
	}
	holds(t, x, nil)
}

// Of a table that New didn't make (its fields are all 0) nothing is promised but that no call panics; it has no room.
func TestZero(t *testing.T) {
	var x Table
	for _, label := range []int{0, 16, api.MaxLabel} {
		puts(t, &x, label, 1, api.ErrFull)
		deletes(t, &x, label, api.ErrNone)
		lacks(t, &x, label)
	}
	for _, label := range wrong() {
		puts(t, &x, label, 1, api.ErrLabel)
		deletes(t, &x, label, api.ErrLabel)
		lacks(t, &x, label)
	}
	holds(t, &x, nil)
}

// What All answers is new memory.
func TestNewMemory(t *testing.T) {
	items := row(16, 17, 18)
	x := filled(t, 4, items)
	l := x.All()
	_ = append(l[:1], Item{5, 5})
	l[0] = Item{6, 6}
	holds(t, x, items)
	before := x.All()
	puts(t, x, 16, 99, api.OK)
	deletes(t, x, 17, api.OK)
	if !slices.Equal(before, items) {
		t.Errorf("All that was told is now %v", before)
	}
}

// P13.4: labels that share a place are found, whichever of them went, at the slots' beginning, between, and round their end.
func TestShared(t *testing.T) {
	const n = 6
	for _, place := range []int{0, 1, 7, 11, 14, 15} {
		x := New(8)
		if len(x.slots) != 16 {
			t.Fatalf("there are %d slots", len(x.slots))
		}
		items := row(sharers(t, x, place, n)...)
		for gone := range 1 << n {
			y := filled(t, 8, items)
			var left []Item
			for i, item := range items {
				if gone>>i&1 == 1 {
					deletes(t, y, item.Label, api.OK)
				} else {
					left = append(left, item)
				}
			}
			holds(t, y, rising(left))
			for i, item := range items {
				if gone>>i&1 == 1 {
					lacks(t, y, item.Label)
					puts(t, y, item.Label, item.Value, api.OK)
				}
			}
			holds(t, y, items)
		}
	}
}

// P13.4: labels of places that follow each other, and push each other on, are found in whatever order they went.
func TestNeighbours(t *testing.T) {
	for _, first := range []int{0, 5, 6, 7} {
		x := New(4)
		if len(x.slots) != 8 {
			t.Fatalf("there are %d slots", len(x.slots))
		}
		var labels []int
		for _, place := range []int{first, first + 1, first, first + 2} {
			labels = append(labels, sharers(t, x, place%8, 3)[len(labels)%3])
		}
		for _, came := range orders(4) {
			for _, went := range orders(4) {
				y := New(4)
				for _, i := range came {
					puts(t, y, labels[i], i, api.OK)
				}
				for k, i := range went {
					deletes(t, y, labels[i], api.OK)
					for _, j := range went[k+1:] {
						gets(t, y, labels[j], j)
					}
				}
				holds(t, y, nil)
			}
		}
	}
}

// P13.4: many labels that may stand in the same place; some are deleted before the others are looked for.
func TestManyShared(t *testing.T) {
	x := New(1000)
	labels := sharers(t, x, len(x.slots)-3, 500)
	labels = append(labels, sharers(t, x, 0, 500)...)
	for i, label := range labels {
		if e := x.Put(label, i); e != api.OK {
			t.Fatal(label, e)
		}
	}
	for i, label := range labels {
		if i%3 == 1 {
			if e := x.Delete(label); e != api.OK {
				t.Fatal(label, e)
			}
		}
	}
	for i, label := range labels {
		if v, is := x.Get(label); is != (i%3 != 1) || is && v != i {
			t.Fatalf("Get(%d) is %d, %v", label, v, is)
		}
	}
	sound(t, x)
}

// P13.4: labels in even steps, whose lower or upper bits are all the same, are found when some of them went.
func TestSteps(t *testing.T) {
	for room := 1; room <= 1024; room *= 2 {
		for step := 1; step <= 1<<16; step *= 2 {
			n := min(room, (api.MaxLabel+1)/step)
			x := New(room)
			for i := range n {
				if e := x.Put(i*step, i); e != api.OK {
					t.Fatalf("room %d, step %d: Put %d tells %d", room, step, i, e)
				}
			}
			for i := 0; i < n; i += 2 {
				if e := x.Delete(i * step); e != api.OK {
					t.Fatalf("room %d, step %d: Delete %d tells %d", room, step, i, e)
				}
			}
			for i := range n {
				if v, is := x.Get(i * step); is != (i%2 == 1) || is && v != i {
					t.Fatalf("room %d, step %d: Get %d is %d, %v", room, step, i, v, is)
				}
			}
			counts(t, x, n/2)
		}
	}
}

// P13.4: a table that was full of labels that went since is as good as a new one, over and over, for all labels that there are.
func TestFullAndGone(t *testing.T) {
	for _, room := range []int{1, 2, 7, 64, 1000} {
		x := New(room)
		label := 0
		for range 40 {
			var labels []int
			for range room {
				label = (label + 7919) % (api.MaxLabel + 1)
				labels = append(labels, label)
				if e := x.Put(label, label+1); e != api.OK {
					t.Fatalf("room %d: Put(%d) tells %d", room, label, e)
				}
			}
			puts(t, x, (label+1)%(api.MaxLabel+1), 1, api.ErrFull)
			for _, l := range labels {
				gets(t, x, l, l+1)
				if e := x.Delete(l); e != api.OK {
					t.Fatalf("room %d: Delete(%d) tells %d", room, l, e)
				}
				lacks(t, x, l)
			}
			holds(t, x, nil)
			sound(t, x)
		}
	}
}

// P13.4: every label that there is comes and goes, beside one that stays.
func TestEveryLabel(t *testing.T) {
	x := New(3)
	puts(t, x, 16, -1, api.OK)
	for label := range api.MaxLabel + 1 {
		if label == 16 {
			continue
		}
		if e := x.Put(label, label); e != api.OK {
			t.Fatalf("Put(%d) tells %d", label, e)
		}
		if v, is := x.Get(label); v != label || !is {
			t.Fatalf("Get(%d) is %d, %v", label, v, is)
		}
		if v, is := x.Get(16); v != -1 || !is {
			t.Fatalf("beside %d Get(16) is %d, %v", label, v, is)
		}
		if e := x.Delete(label); e != api.OK {
			t.Fatalf("Delete(%d) tells %d", label, e)
		}
	}
	holds(t, x, []Item{{16, -1}})
}

// model is a table as the chapter tells it: a map.
type model struct {
	room   int
	values map[int]int
}

// may tells whether a label may be.
func (m *model) may(label int) bool { return label >= 0 && label <= 1048575 }

// put is Put, as the chapter tells it.
func (m *model) put(label, value int) api.Errno {
	_, is := m.values[label]
	switch {
	case !m.may(label):
		return 40
	case !is && len(m.values) == m.room:
		return 30
	}
	m.values[label] = value
	return 0
}

// remove is Delete, as the chapter tells it.
func (m *model) remove(label int) api.Errno {
	_, is := m.values[label]
	switch {
	case !m.may(label):
		return 40
	case !is:
		return 31
	}
	delete(m.values, label)
	return 0
}

// all is All, as the chapter tells it.
func (m *model) all() []Item {
	var l []Item
	for label, value := range m.values {
		l = append(l, Item{label, value})
	}
	return rising(l)
}

// choices is the labels that a drawn row of steps has: some that share a few places, some that follow each other, some wrong.
func choices(x *Table, r *rand.Rand) []int {
	l := []int{-1, 0, api.MaxLabel, api.MaxLabel + 1, 1<<32 + 3}
	first := r.Intn(api.MaxLabel - 3*x.room - 8)
	for i := range x.room + 2 {
		l = append(l, first+i)
	}
	place := r.Intn(len(x.slots))
	for len(l) < 4*x.room+12 {
		label := r.Intn(api.MaxLabel + 1)
		if x.turn(x.home(label)-place) < 2 {
			l = append(l, label)
		}
	}
	return l
}

// P13.2, P13.3, P13.4: drawn steps, as the model answers them.
func TestModel(t *testing.T) {
	for seed := range int64(400) {
		r := rand.New(rand.NewSource(seed))
		x := New(1 + r.Intn(24))
		m := &model{room: x.room, values: map[int]int{}}
		labels := choices(x, r)
		for range 300 {
			label, value := labels[r.Intn(len(labels))], r.Intn(7)-3
			if r.Intn(2) == 0 {
				puts(t, x, label, value, m.put(label, value))
			} else {
				deletes(t, x, label, m.remove(label))
			}
			holds(t, x, m.all())
			for _, l := range labels {
				if _, is := m.values[l]; !is {
					lacks(t, x, l)
				}
			}
			if t.Failed() {
				t.Fatalf("seed %d", seed)
			}
		}
	}
}

// P13.4: the same labels are there, whatever order they came and went in.
func TestOrdersOfComing(t *testing.T) {
	r := rand.New(rand.NewSource(1))
	labels := r.Perm(api.MaxLabel + 1)[:600]
	want := rising(row(labels[:400]...))
	for range 20 {
		x := New(600)
		for _, i := range r.Perm(600) {
			if e := x.Put(labels[i], i+1); e != api.OK {
				t.Fatal(e)
			}
		}
		for _, i := range r.Perm(200) {
			if e := x.Delete(labels[400+i]); e != api.OK {
				t.Fatal(e)
			}
		}
		holds(t, x, want)
		sound(t, x)
	}
}
