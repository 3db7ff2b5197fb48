package lpm

import (
	"math"
	"math/rand"
	"net/netip"
	"slices"
	"testing"

	"footplate/api"
	"footplate/prefix"
)

// of is the prefix of a text that is one.
func of(t *testing.T, s string) api.Prefix {
	t.Helper()
	p, is := prefix.Parse(s)
	if !is {
		t.Fatalf("%q is no prefix", s)
	}
	return p
}

// row is the items of texts, with values from 1 on.
func row(t *testing.T, texts ...string) []Item {
	t.Helper()
	var items []Item
	for i, s := range texts {
		items = append(items, Item{Prefix: of(t, s), Value: i + 1})
	}
	return items
}

// address is an address of either kind.
func address(s string) [16]byte {
	var addr [16]byte
	copy(addr[:], netip.MustParseAddr(s).AsSlice())
	return addr
}

// filled is a table of items, put in that order.
func filled(t *testing.T, six bool, room int, items []Item) *Table {
	t.Helper()
	x := New(six, room)
	for _, item := range items {
		puts(t, x, item.Prefix, item.Value, api.OK)
	}
	return x
}

// puts asks for Put's answer; with an error nothing may have changed.
func puts(t *testing.T, x *Table, p api.Prefix, value int, want api.Errno) {
	t.Helper()
	before := x.All()
	if e := x.Put(p, value); e != want {
		t.Errorf("Put(%v, %d) tells %d, not %d", p, value, e, want)
	}
	if want == api.OK {
		gets(t, x, p, value)
	} else {
		holds(t, x, before)
	}
	sound(t, x)
}

// deletes asks for Delete's answer; with an error nothing may have changed.
func deletes(t *testing.T, x *Table, p api.Prefix, want api.Errno) {
	t.Helper()
	before := x.All()
	if e := x.Delete(p); e != want {
		t.Errorf("Delete(%v) tells %d, not %d", p, e, want)
	}
	if want == api.OK {
		lacks(t, x, p)
	} else {
		holds(t, x, before)
	}
	sound(t, x)
}

// gets asks for a value that is there.
func gets(t *testing.T, x *Table, p api.Prefix, value int) {
	t.Helper()
	if v, is := x.Get(p); v != value || !is {
		t.Errorf("Get(%v) is %d, %v, not %d", p, v, is, value)
	}
}

// lacks asks for a value that isn't there.
func lacks(t *testing.T, x *Table, p api.Prefix) {
	t.Helper()
	if v, is := x.Get(p); v != 0 || is {
		t.Errorf("Get(%v) is %d, %v, not nothing", p, v, is)
	}
}

// holds asks for All and Len.
func holds(t *testing.T, x *Table, want []Item) {
	t.Helper()
	if got := x.All(); !slices.Equal(got, want) {
		t.Errorf("All is %v, not %v", got, want)
	}
	if x.Len() != len(want) {
		t.Errorf("Len is %d, not %d", x.Len(), len(want))
	}
}

// looks asks for the item that an address comes to.
func looks(t *testing.T, x *Table, addr [16]byte, want Item) {
	t.Helper()
	if item, is := x.Look(addr); item != want || !is {
		t.Errorf("Look(%v) is %v, %v, not %v", addr, item, is, want)
	}
}

// misses asks for an address that no prefix has.
func misses(t *testing.T, x *Table, addr [16]byte) {
	t.Helper()
	if item, is := x.Look(addr); item != (Item{}) || is {
		t.Errorf("Look(%v) is %v, %v, not nothing", addr, item, is)
	}
}

// sound asks whether each node is reached once or free, and none stands in vain.
func sound(t *testing.T, x *Table) {
	t.Helper()
	if x == nil {
		return
	}
	seen := map[int]int{}
	var visit func(n int)
	visit = func(n int) {
		if n == none {
			return
		}
		seen[n]++
		at := x.nodes[n]
		if !at.held && (at.kids[0] == none || at.kids[1] == none) {
			t.Errorf("node %d %v stands in vain", n, at)
		}
		if !at.held && at.item.Value != 0 {
			t.Errorf("node %d %v keeps a value", n, at)
		}
		visit(at.kids[0])
		visit(at.kids[1])
	}
	visit(x.root)
	for _, n := range x.free {
		seen[n]++
		if x.nodes[n] != (node{}) {
			t.Errorf("node %d is free, and is %v", n, x.nodes[n])
		}
	}
	for n := range x.nodes {
		if n != none && seen[n] != 1 {
			t.Errorf("node %d is met %d times", n, seen[n])
		}
	}
}

// wrong are prefixes that a table of a kind doesn't take.
func wrong(six bool) []api.Prefix {
	most := 32
	if six {
		most = 128
	}
	l := []api.Prefix{{Six: !six}, {Six: !six, Addr: [16]byte{10}, Len: 8}, {Six: !six, Addr: [16]byte{10, 1}, Len: 16}, {Six: !six, Addr: [16]byte{10, 1, 2, 3}, Len: 32}}
	for _, n := range []int{math.MinInt, -1, most + 1, 129, 1 << 32, math.MaxInt} {
		l = append(l, api.Prefix{Six: six, Len: n}, api.Prefix{Six: six, Addr: [16]byte{10, 1}, Len: n})
	}
	return append(l, api.Prefix{Six: six, Addr: [16]byte{1}}, api.Prefix{Six: six, Addr: [16]byte{10, 1}, Len: 8}, api.Prefix{Six: six, Addr: [16]byte{10, 1}, Len: 15}, api.Prefix{Six: six, Addr: [16]byte{15: 1}, Len: min(32, most)})
}

// P9.1: a table, just if the room is 1 to 65536, and there is nothing in it.
func TestNew(t *testing.T) {
	for _, six := range []bool{false, true} {
		for _, room := range []int{math.MinInt, -65536, -1, 0, 65537, 1 << 32, 1<<32 + 1, math.MaxInt} {
			if New(six, room) != nil {
				t.Errorf("there is a table with room %d", room)
			}
		}
		for _, room := range []int{1, 2, 65535, 65536} {
			x := New(six, room)
			if x == nil {
				t.Fatalf("there is no table with room %d", room)
			}
			holds(t, x, nil)
			misses(t, x, [16]byte{})
			lacks(t, x, api.Prefix{Six: six})
			deletes(t, x, api.Prefix{Six: six}, api.ErrNone)
			puts(t, x, api.Prefix{Six: !six}, 1, api.ErrArg)
			puts(t, x, api.Prefix{Six: six}, 1, api.OK)
		}
	}
}

// P9.1: two tables have nothing in common.
func TestTwoTables(t *testing.T) {
	x, y := New(false, 3), New(false, 3)
	puts(t, x, of(t, "10.0.0.0/8"), 1, api.OK)
	holds(t, y, nil)
	puts(t, y, of(t, "10.0.0.0/8"), 2, api.OK)
	gets(t, x, of(t, "10.0.0.0/8"), 1)
}

// P9.2: what may not be, or is of the other kind, is refused, and nothing changes.
func TestWrong(t *testing.T) {
	for _, six := range []bool{false, true} {
		empty := New(six, 2)
		some := New(six, 8)
		full := New(six, 2)
		for i, p := range []api.Prefix{prefix.Of(six, [16]byte{10}, 8), prefix.Of(six, [16]byte{10, 1}, 16)} {
			puts(t, some, p, i+1, api.OK)
			puts(t, full, p, i+1, api.OK)
		}
		puts(t, some, api.Prefix{Six: six}, 7, api.OK)
		for _, x := range []*Table{empty, some, full} {
			for _, p := range wrong(six) {
				puts(t, x, p, 5, api.ErrArg)
				deletes(t, x, p, api.ErrArg)
				lacks(t, x, p)
			}
		}
	}
}

// P9.2: one that is there takes another value, with room and without.
func TestPutTwice(t *testing.T) {
	x := New(false, 2)
	a, b, c := of(t, "10.0.0.0/8"), of(t, "10.1.0.0/16"), of(t, "10.2.0.0/16")
	puts(t, x, a, 1, api.OK)
	puts(t, x, a, 2, api.OK)
	holds(t, x, []Item{{a, 2}})
	puts(t, x, b, 0, api.OK)
	holds(t, x, []Item{{a, 2}, {b, 0}})
	puts(t, x, c, 9, api.ErrFull)
	puts(t, x, a, math.MinInt, api.OK)
	puts(t, x, b, math.MaxInt, api.OK)
	holds(t, x, []Item{{a, math.MinInt}, {b, math.MaxInt}})
	looks(t, x, address("10.1.0.9"), Item{b, math.MaxInt})
	looks(t, x, address("10.2.0.9"), Item{a, math.MinInt})
}

// P9.2: no more prefixes than there is room for; nodes where two part take none of it.
func TestFull(t *testing.T) {
	for room := 1; room < 9; room++ {
		for _, six := range []bool{false, true} {
			x := New(six, room)
			for i := range room {
				puts(t, x, prefix.Of(six, [16]byte{byte(i * 31)}, 8+i%2), i, api.OK)
			}
			puts(t, x, api.Prefix{Six: six}, 1, api.ErrFull)
			puts(t, x, prefix.Of(six, [16]byte{9: 1}, 128), 1, api.ErrFull)
			puts(t, x, prefix.Of(six, [16]byte{31 * 2}, 7), 1, api.ErrFull)
			deletes(t, x, prefix.Of(six, [16]byte{}, 8), api.OK)
			puts(t, x, api.Prefix{Six: six}, 1, api.OK)
			puts(t, x, prefix.Of(six, [16]byte{}, 8), 1, api.ErrFull)
		}
	}
}

// P9.2: the greatest room is there, and no more than it.
func TestMostRoom(t *testing.T) {
	x := New(true, api.MaxTable)
	at := func(i int) api.Prefix {
		return prefix.Of(true, [16]byte{0x20, 1, 8: byte(i), 15: byte(i >> 8)}, 128)
	}
	for i := range api.MaxTable {
		if e := x.Put(at(i), i); e != api.OK {
			t.Fatal(i, e)
		}
	}
	if e := x.Put(of(t, "::/0"), 1); e != api.ErrFull || x.Len() != api.MaxTable {
		t.Error(e, x.Len())
	}
	sound(t, x)
	if len(x.nodes) > 2*api.MaxTable {
		t.Errorf("there are %d nodes", len(x.nodes))
	}
	all := x.All()
	if len(all) != api.MaxTable || !slices.IsSortedFunc(all, func(a, b Item) int { return prefix.Compare(a.Prefix, b.Prefix) }) {
		t.Error("All isn't all in order")
	}
	for i := range api.MaxTable {
		if item, is := x.Look(at(i).Addr); !is || item != (Item{at(i), i}) {
			t.Fatal(i, item)
		}
	}
	for i := range api.MaxTable {
		if e := x.Delete(at(i)); e != api.OK {
			t.Fatal(i, e)
		}
	}
	holds(t, x, nil)
	sound(t, x)
}

// P9.2: what is deleted is gone, wherever it stands, and nothing else is.
func TestDelete(t *testing.T) {
	items := row(t, "0.0.0.0/0", "10.0.0.0/8", "10.0.0.0/9", "10.0.0.0/32", "10.1.0.0/16", "10.1.2.0/24", "10.1.3.0/24", "10.1.3.128/25", "192.168.0.0/16", "255.255.255.255/32")
	for i, item := range items {
		x := filled(t, false, len(items), items)
		deletes(t, x, item.Prefix, api.OK)
		left := slices.Delete(slices.Clone(items), i, i+1)
		holds(t, x, left)
		for _, other := range left {
			gets(t, x, other.Prefix, other.Value)
		}
		deletes(t, x, item.Prefix, api.ErrNone)
		puts(t, x, item.Prefix, 70, api.OK)
		left = slices.Insert(left, i, Item{item.Prefix, 70})
		holds(t, x, left)
	}
}

// P9.2: what isn't there isn't deleted, though others cover it, are covered by it, or stand beside it.
func TestDeleteNone(t *testing.T) {
	items := row(t, "10.0.0.0/8", "10.1.2.0/24", "10.1.3.0/24")
	x := filled(t, false, 3, items)
	// Where the last two part stands a node of 10.1.2.0/23, that isn't in the table.
	for _, s := range []string{"0.0.0.0/0", "10.0.0.0/7", "10.0.0.0/9", "10.1.0.0/16", "10.1.2.0/23", "10.1.2.0/25", "10.1.2.0/32", "10.1.4.0/24", "11.0.0.0/8", "192.168.0.0/16"} {
		deletes(t, x, of(t, s), api.ErrNone)
		lacks(t, x, of(t, s))
	}
	holds(t, x, items)
}

// P9.2: the only one is deleted, and the table is as a new one.
func TestDeleteOnly(t *testing.T) {
	for _, s := range []string{"0.0.0.0/0", "10.0.0.0/8", "10.1.2.3/32", "255.255.255.255/32"} {
		x := New(false, 1)
		for value := range 5 {
			puts(t, x, of(t, s), value, api.OK)
			looks(t, x, of(t, s).Addr, Item{of(t, s), value})
			deletes(t, x, of(t, s), api.OK)
			holds(t, x, nil)
			misses(t, x, of(t, s).Addr)
			deletes(t, x, of(t, s), api.ErrNone)
		}
	}
}

// P9.2: a node that was where two parted becomes a prefix of the table, and then again none.
func TestForkIsPut(t *testing.T) {
	items := row(t, "10.1.2.0/23", "10.1.2.0/24", "10.1.3.0/24")
	for _, order := range orders(len(items)) {
		x := New(false, 3)
		for _, i := range order {
			puts(t, x, items[i].Prefix, items[i].Value, api.OK)
		}
		holds(t, x, items)
		deletes(t, x, items[0].Prefix, api.OK)
		holds(t, x, items[1:])
		misses(t, x, address("10.1.4.0"))
		deletes(t, x, items[1].Prefix, api.OK)
		holds(t, x, items[2:])
		misses(t, x, address("10.1.2.0"))
	}
}

// P9.2: nodes that were given back are taken again.
func TestNodesAreTakenAgain(t *testing.T) {
	x := New(true, 4)
	for round := range 1000 {
		for i := range 4 {
			puts(t, x, prefix.Of(true, [16]byte{byte(round), byte(i * 64), 15: 1}, 16+round%113), i, api.OK)
		}
		for _, item := range x.All() {
			deletes(t, x, item.Prefix, api.OK)
		}
	}
	if len(x.nodes) > 8 {
		t.Errorf("there are %d nodes for 4 prefixes", len(x.nodes))
	}
}

// P9.3: the chapter's examples.
func TestExamples(t *testing.T) {
	x := filled(t, false, 2, row(t, "10.0.0.0/8", "10.1.0.0/16"))
	looks(t, x, address("10.1.2.3"), Item{of(t, "10.1.0.0/16"), 2})
	looks(t, x, address("10.2.0.0"), Item{of(t, "10.0.0.0/8"), 1})
	misses(t, x, address("11.0.0.0"))
}

// P9.3: just what was put is got, not what it covers, nor what covers it.
func TestGet(t *testing.T) {
	x := filled(t, true, 3, row(t, "2001:db8::/32", "2001:db8:1::/48", "::/0"))
	gets(t, x, of(t, "2001:db8::/32"), 1)
	gets(t, x, of(t, "2001:db8:1::/48"), 2)
	gets(t, x, of(t, "::/0"), 3)
	for _, s := range []string{"2001:db8::/31", "2001:db8::/33", "2001:db8::/48", "2001:db8::/47", "2001:db8:1::/49", "2001:db8:1::1/128", "::/1", "::/128", "8000::/1", "0.0.0.0/0", "32.1.13.184/32"} {
		lacks(t, x, of(t, s))
	}
	lacks(t, x, api.Prefix{Six: true, Addr: address("2001:db8:1::"), Len: 32})
	lacks(t, x, api.Prefix{Six: true, Addr: address("2001:db8::1"), Len: 32})
}

// P9.3: an address comes to nothing, if no prefix has it.
func TestLookNone(t *testing.T) {
	x := filled(t, false, 9, row(t, "10.1.2.0/24", "10.1.3.0/24", "192.168.0.1/32"))
	for _, s := range []string{"0.0.0.0", "10.1.0.0", "10.1.1.255", "10.1.4.0", "10.2.2.0", "192.168.0.0", "192.168.0.2", "255.255.255.255"} {
		misses(t, x, address(s))
	}
	y := filled(t, true, 9, row(t, "::1/128", "8000::/1"))
	for _, s := range []string{"::", "::2", "::3", "1::1", "7fff::"} {
		misses(t, y, address(s))
	}
}

// P9.3: the prefix of Len 0 has all addresses.
func TestLookAll(t *testing.T) {
	x := filled(t, false, 1, row(t, "0.0.0.0/0"))
	y := filled(t, true, 1, row(t, "::/0"))
	for _, s := range []string{"0.0.0.0", "10.1.2.3", "127.255.255.255", "128.0.0.0", "255.255.255.255"} {
		looks(t, x, address(s), Item{api.Prefix{}, 1})
	}
	for _, s := range []string{"::", "::1", "7fff::", "8000::", "ffff:ffff:ffff:ffff:ffff:ffff:ffff:ffff"} {
		looks(t, y, address(s), Item{api.Prefix{Six: true}, 1})
	}
}

// P9.3: the longest prefixes have one address each.
func TestLookLongest(t *testing.T) {
	items := row(t, "10.1.2.3/32", "10.1.2.2/32", "255.255.255.255/32", "0.0.0.0/32")
	x := filled(t, false, 4, items)
	for _, item := range items {
		looks(t, x, item.Prefix.Addr, item)
	}
	misses(t, x, address("10.1.2.1"))
	misses(t, x, address("10.1.2.4"))
	items = row(t, "::/128", "::1/128", "2001:db8::1/128", "ffff:ffff:ffff:ffff:ffff:ffff:ffff:ffff/128", "ffff:ffff:ffff:ffff:ffff:ffff:ffff:fffe/128")
	y := filled(t, true, 5, items)
	for _, item := range items {
		looks(t, y, item.Prefix.Addr, item)
	}
	misses(t, y, address("::2"))
	misses(t, y, address("ffff:ffff:ffff:ffff:ffff:ffff:ffff:fffd"))
}

// P9.3: of the address's bytes behind the fourth one a table of IPv4 asks none (prefix.Has).
func TestLookBehind(t *testing.T) {
	x := filled(t, false, 3, row(t, "10.1.2.3/32", "10.0.0.0/8", "255.255.255.255/32"))
	for i := 4; i < 16; i++ {
		for _, b := range []byte{1, 128, 255} {
			addr := address("10.1.2.3")
			addr[i] = b
			looks(t, x, addr, Item{of(t, "10.1.2.3/32"), 1})
			addr[3] = 4
			looks(t, x, addr, Item{of(t, "10.0.0.0/8"), 2})
			addr[0] = 11
			misses(t, x, addr)
		}
	}
}

// P9.3: of a chain of all Lens the one is told that has the address and is the longest.
func TestLookChain(t *testing.T) {
	for _, six := range []bool{false, true} {
		most := 32
		if six {
			most = 128
		}
		for _, fill := range []byte{0, 255, 0xa5} {
			var addr [16]byte
			for i := range most / 8 {
				addr[i] = fill
			}
			x := New(six, most+1)
			var all []Item
			for n := range most + 1 {
				all = append(all, Item{prefix.Of(six, addr, n), n + 1})
			}
			slices.SortFunc(all, func(a, b Item) int { return prefix.Compare(a.Prefix, b.Prefix) })
			for _, i := range rand.New(rand.NewSource(int64(fill))).Perm(len(all)) {
				puts(t, x, all[i].Prefix, all[i].Value, api.OK)
			}
			holds(t, x, all)
			looks(t, x, addr, Item{prefix.Of(six, addr, most), most + 1})
			for n := range most {
				other := addr
				other[n/8] ^= 128 >> (n % 8)
				looks(t, x, other, Item{prefix.Of(six, addr, n), n + 1})
			}
			for n := most; n >= 0; n-- {
				deletes(t, x, prefix.Of(six, addr, n), api.OK)
				if n > 0 {
					looks(t, x, addr, Item{prefix.Of(six, addr, n-1), n})
				}
			}
			misses(t, x, addr)
		}
	}
}

// orders are all orders of the places 0 to n - 1.
func orders(n int) [][]int {
	if n == 0 {
		return [][]int{nil}
	}
	var l [][]int
	for _, order := range orders(n - 1) {
		for at := range n {
			l = append(l, slices.Insert(slices.Clone(order), at, n-1))
		}
	}
	return l
}

// P9.3, P9.5: however they are put, all are told by Addr, then by Len, and each address comes to the same.
func TestOrder(t *testing.T) {
	items := row(t, "0.0.0.0/0", "0.0.0.0/1", "0.0.0.0/32", "10.0.0.0/8", "10.0.0.0/15", "10.1.2.0/24", "128.0.0.0/1")
	for _, order := range orders(len(items)) {
		x := New(false, len(items))
		for _, i := range order {
			if e := x.Put(items[i].Prefix, items[i].Value); e != api.OK {
				t.Fatal(e)
			}
		}
		holds(t, x, items)
		looks(t, x, address("10.1.2.9"), items[5])
		looks(t, x, address("10.1.3.9"), items[4])
		looks(t, x, address("10.2.0.0"), items[3])
		looks(t, x, address("0.0.0.0"), items[2])
		looks(t, x, address("0.0.0.1"), items[1])
		looks(t, x, address("200.0.0.0"), items[6])
	}
}

// P9.3: what is answered is new memory, and asking changes nothing.
func TestNewMemory(t *testing.T) {
	items := row(t, "::/0", "::1/128", "8000::/1")
	x := filled(t, true, 3, items)
	for range 3 {
		all := x.All()
		if !slices.Equal(all, items) {
			t.Fatal(all)
		}
		_ = append(all, Item{Value: 9})
		clear(all)
		looks(t, x, address("::1"), items[1])
		lacks(t, x, of(t, "::/128"))
	}
	before := x.All()
	deletes(t, x, items[0].Prefix, api.OK)
	if !slices.Equal(before, items) {
		t.Error("what was answered has changed")
	}
}

// P9.3: those that are told may be left at any place.
func TestLeave(t *testing.T) {
	items := row(t, "0.0.0.0/0", "10.0.0.0/8", "10.0.0.0/16", "10.1.0.0/16", "10.1.0.0/24", "128.0.0.0/1")
	x := filled(t, false, 6, items)
	for stop := range items {
		var got []Item
		for item := range x.below(x.root) {
			got = append(got, item)
			if len(got) > stop {
				break
			}
		}
		if !slices.Equal(got, items[:stop+1]) {
			t.Errorf("up to %d: %v", stop, got)
		}
	}
}

// P9.4: of a nil table there is nothing.
func TestNil(t *testing.T) {
	var x *Table
	for _, p := range append(wrong(false), append(wrong(true), of(t, "10.0.0.0/8"), of(t, "::/0"), api.Prefix{})...) {
		if e := x.Put(p, 1); e != api.ErrArg {
			t.Error(p, e)
		}
		if e := x.Delete(p); e != api.ErrArg {
			t.Error(p, e)
		}
		lacks(t, x, p)
		misses(t, x, p.Addr)
	}
	if len(x.All()) != 0 || x.Len() != 0 {
		t.Error(x.All(), x.Len())
	}
}

// Of a table that New didn't make (its fields are all 0) nothing is promised but that no call panics; it has no room.
func TestZero(t *testing.T) {
	var x Table
	if e := x.Put(of(t, "10.0.0.0/8"), 1); e != api.ErrFull {
		t.Error(e)
	}
	if e := x.Delete(of(t, "10.0.0.0/8")); e != api.ErrNone {
		t.Error(e)
	}
	lacks(t, &x, api.Prefix{})
	misses(t, &x, [16]byte{})
	holds(t, &x, nil)
}

// P9.5: what is put and deleted again leaves the table as it was.
func TestPutAndDelete(t *testing.T) {
	items := row(t, "10.0.0.0/8", "10.1.0.0/16", "10.1.2.0/24", "10.1.3.0/24", "192.168.0.0/16")
	others := []string{"0.0.0.0/0", "0.0.0.0/32", "8.0.0.0/5", "10.0.0.0/9", "10.1.2.0/23", "10.1.2.0/25", "10.1.2.3/32", "10.128.0.0/9", "11.0.0.0/8", "128.0.0.0/1", "192.168.1.0/24", "255.255.255.255/32"}
	x := filled(t, false, 20, items)
	for _, s := range others {
		puts(t, x, of(t, s), 50, api.OK)
		deletes(t, x, of(t, s), api.OK)
		holds(t, x, items)
	}
	for _, s := range others {
		puts(t, x, of(t, s), 50, api.OK)
	}
	for _, s := range others {
		deletes(t, x, of(t, s), api.OK)
	}
	holds(t, x, items)
	for _, item := range items {
		looks(t, x, item.Prefix.Addr, longest(items, item.Prefix.Addr)[0])
	}
}

// longest is the one item of the greatest Len that has an address, or none, asked one by one.
func longest(items []Item, addr [16]byte) []Item {
	var l []Item
	for _, item := range items {
		if prefix.Has(item.Prefix, addr) && (len(l) == 0 || item.Prefix.Len > l[0].Prefix.Len) {
			l = []Item{item}
		}
	}
	return l
}

// model is a table that is asked one by one.
type model struct {
	six  bool
	room int
	m    map[api.Prefix]int
}

func (m model) put(p api.Prefix, value int) api.Errno {
	if prefix.Check(p) != api.OK || p.Six != m.six {
		return api.ErrArg
	}
	if _, is := m.m[p]; !is && len(m.m) == m.room {
		return api.ErrFull
	}
	m.m[p] = value
	return api.OK
}

func (m model) delete(p api.Prefix) api.Errno {
	if prefix.Check(p) != api.OK || p.Six != m.six {
		return api.ErrArg
	}
	if _, is := m.m[p]; !is {
		return api.ErrNone
	}
	delete(m.m, p)
	return api.OK
}

func (m model) all() []Item {
	var l []Item
	for p, v := range m.m {
		l = append(l, Item{p, v})
	}
	slices.SortFunc(l, func(a, b Item) int { return prefix.Compare(a.Prefix, b.Prefix) })
	return l
}

// drawn is a prefix of few bits, so that they cover each other often; one in twenty may not be, or is of the other kind.
func drawn(r *rand.Rand, six bool) api.Prefix {
	var addr [16]byte
	last := 3
	if six {
		last = 15
	}
	addr[0], addr[last] = byte(r.Intn(4))<<6, byte(r.Intn(4))
	most := 8*last + 8
	n := []int{0, 1, 2, 3, 8, most - 2, most - 1, most}[r.Intn(8)]
	p := prefix.Of(six, addr, n)
	switch r.Intn(60) {
	case 0:
		p.Six = !p.Six
	case 1:
		p.Len = r.Intn(300) - 100
	case 2:
		p.Addr[r.Intn(16)] ^= 1
	}
	return p
}

// P9.2, P9.3, P9.5: whatever is put and deleted, all answers are those of a table that is asked one by one.
func TestModel(t *testing.T) {
	for seed := range int64(60) {
		r := rand.New(rand.NewSource(seed))
		six := seed%2 == 1
		m := model{six, 1 + r.Intn(20), map[api.Prefix]int{}}
		x := New(six, m.room)
		for step := range 400 {
			p := drawn(r, six)
			if r.Intn(5) < 3 {
				if e, want := x.Put(p, step), m.put(p, step); e != want {
					t.Fatalf("seed %d: Put(%v) tells %d, not %d", seed, p, e, want)
				}
			} else if e, want := x.Delete(p), m.delete(p); e != want {
				t.Fatalf("seed %d: Delete(%v) tells %d, not %d", seed, p, e, want)
			}
			all := m.all()
			holds(t, x, all)
			sound(t, x)
			if v, is := m.m[p]; is {
				gets(t, x, p, v)
			} else {
				lacks(t, x, p)
			}
			addr := drawn(r, six).Addr
			if l := longest(all, addr); l != nil {
				looks(t, x, addr, l[0])
			} else {
				misses(t, x, addr)
			}
			if t.Failed() {
				t.Fatalf("seed %d, step %d", seed, step)
			}
		}
	}
}

// P9.5: the same prefixes give the same table, in whatever order they come, and whatever else came and went.
func TestSameTable(t *testing.T) {
	for seed := range int64(20) {
		r := rand.New(rand.NewSource(seed))
		six := seed%2 == 1
		items := map[api.Prefix]int{}
		for len(items) < 12 {
			if p := drawn(r, six); prefix.Check(p) == api.OK && p.Six == six {
				items[p] = len(items)
			}
		}
		want := model{six, 12, items}.all()
		for range 10 {
			x := New(six, 40)
			var gone []api.Prefix
			for _, i := range r.Perm(len(want)) {
				if p := drawn(r, six); x.Put(p, -1) == api.OK {
					gone = append(gone, p)
				}
				x.Put(want[i].Prefix, want[i].Value)
			}
			for _, p := range gone {
				x.Delete(p)
			}
			for _, i := range r.Perm(len(want)) {
				x.Put(want[i].Prefix, want[i].Value)
			}
			holds(t, x, want)
			sound(t, x)
		}
	}
}
