package fib

import (
	"math"
	"math/rand"
	"net/netip"
	"slices"
	"testing"

	"footplate/api"
	"footplate/lpm"
	"footplate/prefix"
)

// of is the prefix of a text that is one.
func of(t *testing.T, s string) api.Prefix {
	t.Helper()
	p, is := prefix.Parse(s)
	if !is {
		t.Fatalf("%q is no prefix", s)
	}
	return p
}

// row is the items of texts, with values from 1 on.
func row(t *testing.T, texts ...string) []lpm.Item {
	t.Helper()
	var items []lpm.Item
	for i, s := range texts {
		items = append(items, lpm.Item{Prefix: of(t, s), Value: i + 1})
	}
	return items
}

// picked is the items at some places.
func picked(items []lpm.Item, places ...int) []lpm.Item {
	var l []lpm.Item
	for _, i := range places {
		l = append(l, items[i])
	}
	return l
}

// address is an address of either kind.
func address(s string) [16]byte {
	var addr [16]byte
	copy(addr[:], netip.MustParseAddr(s).AsSlice())
	return addr
}

// filled is a fib of items, put in that order.
func filled(t *testing.T, room int, items []lpm.Item) *Fib {
	t.Helper()
	f := New(room)
	for _, item := range items {
		puts(t, f, item.Prefix, item.Value, api.OK)
	}
	return f
}

// puts asks for Put's answer; with an error nothing may have changed.
func puts(t *testing.T, f *Fib, p api.Prefix, value int, want api.Errno) {
	t.Helper()
	before := f.All()
	if e := f.Put(p, value); e != want {
		t.Errorf("Put(%v, %d) tells %d, not %d", p, value, e, want)
	}
	if want == api.OK {
		gets(t, f, p, value)
	} else {
		holds(t, f, before)
	}
}

// deletes asks for Delete's answer; with an error nothing may have changed.
func deletes(t *testing.T, f *Fib, p api.Prefix, want api.Errno) {
	t.Helper()
	before := f.All()
	if e := f.Delete(p); e != want {
		t.Errorf("Delete(%v) tells %d, not %d", p, e, want)
	}
	if want == api.OK {
		lacks(t, f, p)
	} else {
		holds(t, f, before)
	}
}

// gets asks for a value that is there.
func gets(t *testing.T, f *Fib, p api.Prefix, value int) {
	t.Helper()
	if v, is := f.Get(p); v != value || !is {
		t.Errorf("Get(%v) is %d, %v, not %d", p, v, is, value)
	}
}

// lacks asks for a value that isn't there.
func lacks(t *testing.T, f *Fib, p api.Prefix) {
	t.Helper()
	if v, is := f.Get(p); v != 0 || is {
		t.Errorf("Get(%v) is %d, %v, not nothing", p, v, is)
	}
}

// looks asks for the item that an address of a kind comes to.
func looks(t *testing.T, f *Fib, six bool, addr [16]byte, want lpm.Item) {
	t.Helper()
	if item, is := f.Look(six, addr); item != want || !is {
		t.Errorf("Look(%v, %v) is %v, %v, not %v", six, addr, item, is, want)
	}
}

// misses asks for an address of a kind that no prefix has.
func misses(t *testing.T, f *Fib, six bool, addr [16]byte) {
	t.Helper()
	if item, is := f.Look(six, addr); item != (lpm.Item{}) || is {
		t.Errorf("Look(%v, %v) is %v, %v, not nothing", six, addr, item, is)
	}
}

// holds asks for All.
func holds(t *testing.T, f *Fib, want []lpm.Item) {
	t.Helper()
	if got := f.All(); !slices.Equal(got, want) {
		t.Errorf("All is %v, not %v", got, want)
	}
}

// above asks for Above.
func above(t *testing.T, f *Fib, p api.Prefix, want []lpm.Item) {
	t.Helper()
	if got := f.Above(p); !slices.Equal(got, want) {
		t.Errorf("Above(%v) is %v, not %v", p, got, want)
	}
}

// below asks for Below.
func below(t *testing.T, f *Fib, p api.Prefix, want []lpm.Item) {
	t.Helper()
	if got := f.Below(p); !slices.Equal(got, want) {
		t.Errorf("Below(%v) is %v, not %v", p, got, want)
	}
}

// uses asks for Uses.
func uses(t *testing.T, f *Fib, value, want int) {
	t.Helper()
	if got := f.Uses(value); got != want {
		t.Errorf("Uses(%d) is %d, not %d", value, got, want)
	}
}

// wrong are prefixes that may not be.
func wrong() []api.Prefix {
	l := []api.Prefix{{Addr: [16]byte{10}, Len: 33}, {Addr: [16]byte{10}, Len: 128}, {Addr: [16]byte{10, 4: 1}, Len: 32}, {Addr: [16]byte{15: 1}, Len: 8}}
	for _, six := range []bool{false, true} {
		for _, n := range []int{math.MinInt, -1, 129, 1 << 32, math.MaxInt} {
			l = append(l, api.Prefix{Six: six, Len: n}, api.Prefix{Six: six, Addr: [16]byte{10, 1}, Len: n})
		}
		l = append(l, api.Prefix{Six: six, Addr: [16]byte{1}}, api.Prefix{Six: six, Addr: [16]byte{10, 1}, Len: 8}, api.Prefix{Six: six, Addr: [16]byte{10, 1}, Len: 15})
	}
	return l
}

// P10.1: a fib, just if the room is 1 to 65536, and there is nothing in it.
func TestNew(t *testing.T) {
	for _, room := range []int{math.MinInt, -65536, -1, 0, 65537, 1 << 32, 1<<32 + 1, math.MaxInt} {
		if New(room) != nil {
			t.Errorf("there is a fib with room %d", room)
		}
	}
	for _, room := range []int{1, 2, 65535, 65536} {
		f := New(room)
		if f == nil {
			t.Fatalf("there is no fib with room %d", room)
		}
		holds(t, f, nil)
		uses(t, f, 0, 0)
		for _, six := range []bool{false, true} {
			whole := api.Prefix{Six: six}
			misses(t, f, six, [16]byte{})
			lacks(t, f, whole)
			above(t, f, whole, nil)
			below(t, f, whole, nil)
			deletes(t, f, whole, api.ErrNone)
			puts(t, f, whole, 1, api.OK)
		}
	}
}

// P10.1: two fibs have nothing in common.
func TestTwoFibs(t *testing.T) {
	f, g := New(3), New(3)
	puts(t, f, of(t, "10.0.0.0/8"), 1, api.OK)
	puts(t, f, of(t, "::/0"), 1, api.OK)
	holds(t, g, nil)
	puts(t, g, of(t, "10.0.0.0/8"), 2, api.OK)
	gets(t, f, of(t, "10.0.0.0/8"), 1)
	uses(t, g, 1, 0)
}

// P10.1: each kind has the room for itself.
func TestFull(t *testing.T) {
	for room := 1; room < 9; room++ {
		for _, six := range []bool{false, true} {
			f := New(room)
			at := func(six bool, i int) api.Prefix { return prefix.Of(six, [16]byte{byte(i)}, 8+i%2) }
			for i := range room {
				puts(t, f, at(six, i), i, api.OK)
			}
			puts(t, f, at(six, room), 1, api.ErrFull)
			puts(t, f, at(six, 0), 77, api.OK)
			for i := range room {
				puts(t, f, at(!six, i), i, api.OK)
			}
			puts(t, f, at(!six, room), 1, api.ErrFull)
			deletes(t, f, at(six, 0), api.OK)
			puts(t, f, at(!six, room), 1, api.ErrFull)
			puts(t, f, at(six, room), 1, api.OK)
			puts(t, f, at(six, 0), 1, api.ErrFull)
		}
	}
}

// P10.1: the greatest room is there for each kind, and no more than it.
func TestMostRoom(t *testing.T) {
	f := New(api.MaxTable)
	at := func(six bool, i int) api.Prefix {
		return prefix.Of(six, [16]byte{0x20, byte(i), byte(i >> 8)}, 24)
	}
	for i := range api.MaxTable {
		if e := f.Put(at(false, i), i); e != api.OK {
			t.Fatal(i, e)
		}
	}
	if e := f.Put(of(t, "0.0.0.0/0"), 1); e != api.ErrFull {
		t.Error(e)
	}
	for i := range api.MaxTable {
		if e := f.Put(at(true, i), i); e != api.OK {
			t.Fatal(i, e)
		}
	}
	if e := f.Put(of(t, "::/0"), 1); e != api.ErrFull {
		t.Error(e)
	}
	all := f.All()
	if len(all) != 2*api.MaxTable || !slices.IsSortedFunc(all, inOrder) {
		t.Error("All isn't all in order")
	}
	if got := f.Below(of(t, "32.0.0.0/8")); !slices.Equal(got, all[:api.MaxTable]) {
		t.Errorf("Below is %d, not all of IPv4", len(got))
	}
	if got := f.Below(of(t, "2000::/8")); !slices.Equal(got, all[api.MaxTable:]) {
		t.Errorf("Below is %d, not all of IPv6", len(got))
	}
	uses(t, f, 65535, 2)
}

// inOrder is how items stand in order.
func inOrder(a, b lpm.Item) int { return prefix.Compare(a.Prefix, b.Prefix) }

// P10.1: the same bits are two prefixes, one of each kind.
func TestBothKinds(t *testing.T) {
	a, b := of(t, "10.0.0.0/8"), of(t, "a00::/8")
	f := New(2)
	puts(t, f, a, 1, api.OK)
	lacks(t, f, b)
	deletes(t, f, b, api.ErrNone)
	puts(t, f, b, 2, api.OK)
	gets(t, f, a, 1)
	puts(t, f, a, 3, api.OK)
	gets(t, f, b, 2)
	deletes(t, f, a, api.OK)
	gets(t, f, b, 2)
	deletes(t, f, a, api.ErrNone)
	deletes(t, f, b, api.OK)
	holds(t, f, nil)
}

// P10.1: what may not be is refused, and nothing changes, with room and without.
func TestWrong(t *testing.T) {
	items := row(t, "0.0.0.0/0", "10.0.0.0/8", "::/0", "a01::/16")
	for _, f := range []*Fib{New(1), filled(t, 2, items), filled(t, 9, items)} {
		for _, p := range wrong() {
			puts(t, f, p, 5, api.ErrArg)
			deletes(t, f, p, api.ErrArg)
			lacks(t, f, p)
		}
	}
}

// P10.1: one that is there takes another value, with room and without.
func TestPutTwice(t *testing.T) {
	a, b := of(t, "10.0.0.0/8"), of(t, "a00::/8")
	f := New(1)
	for _, value := range []int{1, 0, -1, math.MinInt, math.MaxInt} {
		puts(t, f, a, value, api.OK)
		puts(t, f, b, value, api.OK)
		holds(t, f, []lpm.Item{{Prefix: a, Value: value}, {Prefix: b, Value: value}})
		uses(t, f, value, 2)
	}
}

// P10.1: what isn't there isn't got, nor deleted, though others cover it, or are covered by it.
func TestNone(t *testing.T) {
	items := row(t, "10.0.0.0/8", "10.1.2.0/24", "10.1.3.0/24", "2001:db8::/32", "2001:db8::/48")
	f := filled(t, 3, items)
	for _, s := range []string{"0.0.0.0/0", "10.0.0.0/7", "10.0.0.0/9", "10.1.0.0/16", "10.1.2.0/23", "10.1.2.0/32", "11.0.0.0/8", "::/0", "2001:db8::/31", "2001:db8::/33", "2001:db8::/128", "a00::/8"} {
		lacks(t, f, of(t, s))
		deletes(t, f, of(t, s), api.ErrNone)
	}
	for i, item := range items {
		deletes(t, f, item.Prefix, api.OK)
		deletes(t, f, item.Prefix, api.ErrNone)
		holds(t, f, items[i+1:])
	}
}

// P10.1: one address comes to the longest prefix of the kind that is asked.
func TestLook(t *testing.T) {
	items := row(t, "10.0.0.0/8", "10.1.0.0/16", "a01::/16", "a01:203::/32")
	f := filled(t, 2, items)
	looks(t, f, false, address("10.1.2.3"), items[1])
	looks(t, f, true, address("10.1.2.3"), items[3])
	looks(t, f, false, address("10.2.2.3"), items[0])
	misses(t, f, true, address("10.2.2.3"))
	looks(t, f, true, address("10.1.2.4"), items[2])
	looks(t, f, false, address("10.1.2.4"), items[1])
	misses(t, f, false, address("11.0.0.0"))
	misses(t, f, true, address("11.0.0.0"))
	deletes(t, f, items[1].Prefix, api.OK)
	looks(t, f, false, address("10.1.2.3"), items[0])
	looks(t, f, true, address("10.1.2.3"), items[3])
	deletes(t, f, items[0].Prefix, api.OK)
	misses(t, f, false, address("10.1.2.3"))
	puts(t, f, of(t, "::/0"), 9, api.ErrFull)
	deletes(t, f, items[3].Prefix, api.OK)
	puts(t, f, of(t, "::/0"), 9, api.OK)
	looks(t, f, true, address("::"), lpm.Item{Prefix: of(t, "::/0"), Value: 9})
	misses(t, f, false, address("0.0.0.0"))
}

// P10.2: all are told in order, those of IPv4 first, however they were put.
func TestAll(t *testing.T) {
	items := row(t, "0.0.0.0/0", "0.0.0.0/32", "10.0.0.0/8", "10.0.0.0/9", "10.1.0.0/16", "255.255.255.255/32", "::/0", "::/128", "::1/128", "a00::/8", "2001:db8::/32")
	for seed := range int64(40) {
		f := New(6)
		for _, i := range rand.New(rand.NewSource(seed)).Perm(len(items)) {
			puts(t, f, items[i].Prefix, items[i].Value, api.OK)
		}
		holds(t, f, items)
	}
	holds(t, filled(t, 6, items[:6]), items[:6])
	holds(t, filled(t, 6, items[6:]), items[6:])
}

// P10.2: the chapter's examples.
func TestExamples(t *testing.T) {
	items := row(t, "0.0.0.0/0", "10.0.0.0/8", "10.1.0.0/16")
	f := filled(t, 3, items)
	above(t, f, items[2].Prefix, picked(items, 1, 0))
	above(t, f, items[1].Prefix, picked(items, 0))
	above(t, f, items[0].Prefix, nil)
	below(t, f, items[0].Prefix, items)
	below(t, f, items[1].Prefix, picked(items, 1, 2))
	below(t, f, items[2].Prefix, picked(items, 2))
}

// kin is a row for Above and Below: at the same places the same bits, as far as there are some.
func kin(t *testing.T) []lpm.Item {
	return row(t,
		"0.0.0.0/0", "10.0.0.0/8", "10.0.0.0/16", "10.1.0.0/16", "10.1.0.0/24", "10.1.2.0/24", "10.1.2.3/32", "192.0.0.0/2",
		"::/0", "a00::/8", "a00::/16", "a01::/16", "a01::/24", "a01:200::/24", "a01:203::/128", "c000::/2")
}

// P10.2: what covers a prefix, whether it is there or not, by falling Len, without itself.
func TestAbove(t *testing.T) {
	items := kin(t)
	f := filled(t, 8, items)
	for _, x := range []struct {
		four, six string
		want      []int
	}{
		{"0.0.0.0/0", "::/0", nil},
		{"0.0.0.0/1", "::/1", []int{0}},
		{"10.0.0.0/7", "a00::/7", []int{0}},
		{"10.0.0.0/8", "a00::/8", []int{0}},
		{"10.0.0.0/9", "a00::/9", []int{1, 0}},
		{"10.0.0.0/16", "a00::/16", []int{1, 0}},
		{"10.0.0.0/17", "a00::/17", []int{2, 1, 0}},
		{"10.0.0.0/32", "a00::/128", []int{2, 1, 0}},
		{"10.1.0.0/16", "a01::/16", []int{1, 0}},
		{"10.1.0.0/32", "a01::/128", []int{4, 3, 1, 0}},
		{"10.1.2.0/24", "a01:200::/24", []int{3, 1, 0}},
		{"10.1.2.3/32", "a01:203::/128", []int{5, 3, 1, 0}},
		{"10.1.2.2/32", "a01:202::/128", []int{5, 3, 1, 0}},
		{"10.1.3.0/24", "a01:300::/24", []int{3, 1, 0}},
		{"11.0.0.0/8", "b00::/8", []int{0}},
		{"255.255.255.255/32", "ffff:ffff:ffff:ffff:ffff:ffff:ffff:ffff/128", []int{7, 0}},
	} {
		above(t, f, of(t, x.four), picked(items[:8], x.want...))
		above(t, f, of(t, x.six), picked(items[8:], x.want...))
	}
}

// P10.2: what a prefix covers, whether it is there or not, in order, with itself.
func TestBelow(t *testing.T) {
	items := kin(t)
	f := filled(t, 8, items)
	for _, x := range []struct {
		four, six string
		want      []int
	}{
		{"0.0.0.0/0", "::/0", []int{0, 1, 2, 3, 4, 5, 6, 7}},
		{"0.0.0.0/1", "::/1", []int{1, 2, 3, 4, 5, 6}},
		{"128.0.0.0/1", "8000::/1", []int{7}},
		{"10.0.0.0/7", "a00::/7", []int{1, 2, 3, 4, 5, 6}},
		{"10.0.0.0/8", "a00::/8", []int{1, 2, 3, 4, 5, 6}},
		{"10.0.0.0/15", "a00::/15", []int{2, 3, 4, 5, 6}},
		{"10.0.0.0/16", "a00::/16", []int{2}},
		{"10.0.0.0/17", "a00::/17", nil},
		{"10.1.0.0/16", "a01::/16", []int{3, 4, 5, 6}},
		{"10.1.2.0/23", "a01:200::/23", []int{5, 6}},
		{"10.1.2.0/25", "a01:200::/25", []int{6}},
		{"10.1.2.3/32", "a01:203::/128", []int{6}},
		{"10.1.2.2/32", "a01:203::1/128", nil},
		{"10.1.3.0/24", "a01:300::/24", nil},
		{"11.0.0.0/8", "b00::/8", nil},
		{"255.255.255.255/32", "ffff:ffff:ffff:ffff:ffff:ffff:ffff:ffff/128", nil},
	} {
		below(t, f, of(t, x.four), picked(items[:8], x.want...))
		below(t, f, of(t, x.six), picked(items[8:], x.want...))
	}
}

// P10.2: a prefix has none above and below it, where only the other kind is there.
func TestOtherKind(t *testing.T) {
	items := kin(t)
	four, six := filled(t, 8, items[:8]), filled(t, 8, items[8:])
	for i := range 8 {
		above(t, six, items[i].Prefix, nil)
		below(t, six, items[i].Prefix, nil)
		above(t, four, items[8+i].Prefix, nil)
		below(t, four, items[8+i].Prefix, nil)
	}
}

// P10.2: a prefix that may not be has none above and below it.
func TestKinOfWrong(t *testing.T) {
	f := filled(t, 8, kin(t))
	for _, p := range wrong() {
		above(t, f, p, nil)
		below(t, f, p, nil)
	}
}

// P10.2: of a chain of all Lens those that are shorter are above, from the longest one on, and the others are below.
func TestChain(t *testing.T) {
	for _, six := range []bool{false, true} {
		most := 32
		if six {
			most = 128
		}
		for _, fill := range []byte{0, 255, 0xa5} {
			var addr [16]byte
			for i := range most / 8 {
				addr[i] = fill
			}
			var chain []lpm.Item
			for n := range most + 1 {
				chain = append(chain, lpm.Item{Prefix: prefix.Of(six, addr, n), Value: n})
			}
			f := New(most + 1)
			for _, i := range rand.New(rand.NewSource(int64(fill))).Perm(len(chain)) {
				puts(t, f, chain[i].Prefix, chain[i].Value, api.OK)
			}
			for n, item := range chain {
				shorter := slices.Clone(chain[:n])
				slices.Reverse(shorter)
				above(t, f, item.Prefix, shorter)
				below(t, f, item.Prefix, chain[n:])
			}
		}
	}
}

// P10.2: how many have a value is told of both kinds together, as it is now.
func TestUses(t *testing.T) {
	f := New(3)
	a, b, c, d := of(t, "10.0.0.0/8"), of(t, "11.0.0.0/8"), of(t, "a00::/8"), of(t, "b00::/8")
	puts(t, f, a, 7, api.OK)
	uses(t, f, 7, 1)
	uses(t, f, 0, 0)
	puts(t, f, c, 7, api.OK)
	puts(t, f, b, 7, api.OK)
	puts(t, f, d, 0, api.OK)
	uses(t, f, 7, 3)
	uses(t, f, 0, 1)
	puts(t, f, a, 7, api.OK)
	uses(t, f, 7, 3)
	puts(t, f, a, -8, api.OK)
	uses(t, f, 7, 2)
	uses(t, f, -8, 1)
	uses(t, f, 8, 0)
	deletes(t, f, c, api.OK)
	uses(t, f, 7, 1)
	deletes(t, f, c, api.ErrNone)
	uses(t, f, 7, 1)
	puts(t, f, of(t, "12.0.0.0/8"), 7, api.OK)
	puts(t, f, of(t, "13.0.0.0/8"), 7, api.ErrFull)
	puts(t, f, api.Prefix{Len: 40}, 7, api.ErrArg)
	uses(t, f, 7, 2)
	for _, item := range f.All() {
		deletes(t, f, item.Prefix, api.OK)
	}
	for _, value := range []int{7, 0, -8, math.MinInt, math.MaxInt} {
		uses(t, f, value, 0)
	}
}

// P10.2: what is answered is new memory, and asking changes nothing.
func TestNewMemory(t *testing.T) {
	items := kin(t)
	f := filled(t, 8, items)
	p := of(t, "10.1.2.3/32")
	for range 3 {
		for _, l := range [][]lpm.Item{f.All(), f.Above(p), f.Below(of(t, "::/0")), f.Below(p)} {
			_ = append(l, lpm.Item{Value: 9})
			clear(l)
		}
		holds(t, f, items)
		above(t, f, p, picked(items, 5, 3, 1, 0))
		below(t, f, p, picked(items, 6))
		below(t, f, of(t, "::/0"), items[8:])
	}
	before, up, down := f.All(), f.Above(p), f.Below(of(t, "10.0.0.0/8"))
	for _, item := range items {
		deletes(t, f, item.Prefix, api.OK)
	}
	if !slices.Equal(before, items) || !slices.Equal(up, picked(items, 5, 3, 1, 0)) || !slices.Equal(down, items[1:7]) {
		t.Error("what was answered has changed")
	}
}

// nothing asks a fib that takes no prefix at all for all its answers.
func nothing(t *testing.T, f *Fib) {
	t.Helper()
	for _, p := range append(wrong(), of(t, "10.0.0.0/8"), of(t, "10.1.2.3/32"), of(t, "::/0"), of(t, "::1/128"), api.Prefix{}) {
		puts(t, f, p, 1, api.ErrArg)
		deletes(t, f, p, api.ErrArg)
		lacks(t, f, p)
		misses(t, f, false, p.Addr)
		misses(t, f, true, p.Addr)
		above(t, f, p, nil)
		below(t, f, p, nil)
	}
	holds(t, f, nil)
	for _, value := range []int{0, 1, -1} {
		uses(t, f, value, 0)
	}
}

// P10.3: of nil there is nothing, and nothing can be laid in.
func TestNil(t *testing.T) { nothing(t, nil) }

// Of a Fib that New didn't make (its fields are all 0) nothing is promised but that no call panics; it answers as nil.
func TestZero(t *testing.T) { nothing(t, &Fib{}) }

// model is a fib that is asked one by one.
type model struct {
	room int
	m    map[api.Prefix]int
}

// count is how many prefixes of a kind there are.
func (m model) count(six bool) int {
	n := 0
	for p := range m.m {
		if p.Six == six {
			n++
		}
	}
	return n
}

func (m model) put(p api.Prefix, value int) api.Errno {
	if prefix.Check(p) != api.OK {
		return api.ErrArg
	}
	if _, is := m.m[p]; !is && m.count(p.Six) == m.room {
		return api.ErrFull
	}
	m.m[p] = value
	return api.OK
}

func (m model) delete(p api.Prefix) api.Errno {
	if prefix.Check(p) != api.OK {
		return api.ErrArg
	}
	if _, is := m.m[p]; !is {
		return api.ErrNone
	}
	delete(m.m, p)
	return api.OK
}

// these is those of which something is so, in order.
func (m model) these(so func(p api.Prefix, value int) bool) []lpm.Item {
	var l []lpm.Item
	for p, v := range m.m {
		if so(p, v) {
			l = append(l, lpm.Item{Prefix: p, Value: v})
		}
	}
	slices.SortFunc(l, inOrder)
	return l
}

// covers tells whether one prefix that may be covers another one, as the library of addresses has it.
func covers(p, q api.Prefix) bool {
	wide, narrow := lib(p), lib(q)
	return wide.Bits() <= narrow.Bits() && wide.Contains(narrow.Addr())
}

// lib is a prefix that may be, in the library's form.
func lib(p api.Prefix) netip.Prefix {
	if p.Six {
		return netip.PrefixFrom(netip.AddrFrom16(p.Addr), p.Len)
	}
	return netip.PrefixFrom(netip.AddrFrom4([4]byte(p.Addr[:4])), p.Len)
}

// above is Above, by falling Len.
func (m model) above(p api.Prefix) []lpm.Item {
	may := prefix.Check(p) == api.OK
	l := m.these(func(q api.Prefix, _ int) bool { return may && q != p && covers(q, p) })
	slices.SortFunc(l, func(a, b lpm.Item) int { return b.Prefix.Len - a.Prefix.Len })
	return l
}

// below is Below.
func (m model) below(p api.Prefix) []lpm.Item {
	may := prefix.Check(p) == api.OK
	return m.these(func(q api.Prefix, _ int) bool { return may && covers(p, q) })
}

// drawn is a prefix of few bits, so that they cover each other often; one in thirty may not be.
func drawn(r *rand.Rand) api.Prefix {
	six := r.Intn(2) == 1
	last := 3
	if six {
		last = 15
	}
	var addr [16]byte
	addr[0], addr[last] = 0x20|byte(r.Intn(4))<<6, byte(r.Intn(4))
	most := 8*last + 8
	p := prefix.Of(six, addr, []int{0, 1, 2, 3, 8, most - 2, most - 1, most}[r.Intn(8)])
	switch r.Intn(60) {
	case 0:
		p.Len = r.Intn(300) - 100
	case 1:
		p.Addr[r.Intn(16)] ^= 1
	}
	return p
}

// step puts or deletes a prefix that is drawn, in both.
func step(t *testing.T, r *rand.Rand, f *Fib, m model) {
	t.Helper()
	p, value := drawn(r), r.Intn(5)-1
	if r.Intn(5) < 3 {
		if e, want := f.Put(p, value), m.put(p, value); e != want {
			t.Errorf("Put(%v) tells %d, not %d", p, e, want)
		}
	} else if e, want := f.Delete(p), m.delete(p); e != want {
		t.Errorf("Delete(%v) tells %d, not %d", p, e, want)
	}
	if v, is := m.m[p]; is {
		gets(t, f, p, v)
	} else {
		lacks(t, f, p)
	}
}

// P10.1, P10.2: whatever is put and deleted, all answers are those of a fib that is asked one by one.
func TestModel(t *testing.T) {
	for seed := range int64(60) {
		r := rand.New(rand.NewSource(seed))
		m := model{1 + r.Intn(20), map[api.Prefix]int{}}
		f := New(m.room)
		for i := range 300 {
			step(t, r, f, m)
			holds(t, f, m.these(func(api.Prefix, int) bool { return true }))
			for value := -2; value < 5; value++ {
				uses(t, f, value, len(m.these(func(_ api.Prefix, v int) bool { return v == value })))
			}
			p := drawn(r)
			above(t, f, p, m.above(p))
			below(t, f, p, m.below(p))
			whole := prefix.Of(p.Six, p.Addr, 128)
			if l := m.these(func(q api.Prefix, _ int) bool { return q == whole }); l != nil {
				looks(t, f, p.Six, p.Addr, l[0])
			} else if l := m.above(whole); l != nil {
				looks(t, f, p.Six, p.Addr, l[0])
			} else {
				misses(t, f, p.Six, p.Addr)
			}
			if t.Failed() {
				t.Fatalf("seed %d, step %d", seed, i)
			}
		}
	}
}

// P10.4: Above and Below have nothing in common; what is above of what is below covers the prefix, or is covered by it.
func TestWhatFollows(t *testing.T) {
	for seed := range int64(40) {
		r := rand.New(rand.NewSource(seed))
		m := model{20, map[api.Prefix]int{}}
		f := New(m.room)
		for range 100 {
			step(t, r, f, m)
		}
		met := 0
		for range 100 {
			p := drawn(r)
			up := f.Above(p)
			for _, item := range f.Below(p) {
				if slices.Contains(up, item) {
					t.Fatalf("seed %d: %v is above and below %v", seed, item, p)
				}
				for _, x := range f.Above(item.Prefix) {
					met++
					if !covers(x.Prefix, p) && !covers(p, x.Prefix) {
						t.Fatalf("seed %d: %v is above %v, that is below %v", seed, x, item, p)
					}
				}
			}
		}
		if met == 0 {
			t.Errorf("seed %d: nothing was asked", seed)
		}
	}
}
