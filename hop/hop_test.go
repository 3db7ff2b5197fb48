package hop

import (
	"math"
	"math/rand"
	"regexp"
	"slices"
	"strconv"
	"strings"
	"testing"

	"footplate/api"
)

// huge are numbers that are far away from all that may be.
var huge = []int{math.MinInt, math.MinInt32, -1 << 20, 1 << 21, math.MaxInt32, 1 << 32, 1<<32 + 16, 1<<32 + 1, -1<<32 + 16, math.MaxInt}

// bad are labels that can't be pushed.
var bad = append([]int{-16, -2, -1, 1, 3, 4, 7, 13, 14, 15, 1048576, 1048577}, huge...)

// good are labels that can.
var good = []int{0, 2, 16, 17, 100, 65535, 65536, 1048574, 1048575}

// many is so often the same label.
func many(n, label int) []int { return slices.Repeat([]int{label}, n) }

// checks asks for Check's answer, and that the hop stays as it was.
func checks(t *testing.T, h api.Hop, want api.Errno) {
	t.Helper()
	labels, repair := slices.Clone(h.Labels), slices.Clone(h.Repair)
	if e := Check(h); e != want {
		t.Errorf("Check of %v tells %d, not %d", h, e, want)
	}
	if !slices.Equal(labels, h.Labels) || !slices.Equal(repair, h.Repair) {
		t.Errorf("Check changes %v", h)
	}
	shown := Show(h)
	if is := shown != ""; is != (want == api.OK) {
		t.Errorf("Show of %v is %q, though Check asks for %d", h, shown, want)
	}
}

// shows asks for Show's answer, and for Parse's of it, and for those of the same hop with the other kind of no labels.
func shows(t *testing.T, h api.Hop, want string) {
	t.Helper()
	checks(t, h, api.OK)
	checks(t, other(h), api.OK)
	for _, h := range []api.Hop{h, other(h)} {
		if s := Show(h); s != want {
			t.Errorf("Show of %v is %q, not %q", h, s, want)
		}
	}
	if p, is := Parse(want); !is || !equal(p, h) {
		t.Errorf("Parse of %q is %v, %v, not %v", want, p, is, h)
	}
}

// lacks asks for a text that is none.
func lacks(t *testing.T, s string) {
	t.Helper()
	if h, is := Parse(s); is || !zero(h) {
		t.Errorf("Parse of %.100q is %v, %v", s, h, is)
	}
}

// zero tells whether it is an empty hop.
func zero(h api.Hop) bool {
	return h.Op == 0 && len(h.Labels) == 0 && h.Port == 0 && h.Backup == 0 && len(h.Repair) == 0 && !h.Pipe
}

// other is the hop with nil for empty, and empty for nil.
func other(h api.Hop) api.Hop {
	turn := func(l []int) []int {
		if l == nil {
			return []int{}
		}
		if len(l) == 0 {
			return nil
		}
		return l
	}
	h.Labels, h.Repair = turn(h.Labels), turn(h.Repair)
	return h
}

// equal is Same, told apart from it: by the numbers' texts.
func equal(a, b api.Hop) bool { return key(a) == key(b) }

// key is all of a hop, as one text.
func key(h api.Hop) string {
	s := strconv.Itoa(h.Op) + "/" + strconv.Itoa(h.Port) + "/" + strconv.Itoa(h.Backup) + "/" + strconv.FormatBool(h.Pipe)
	for _, l := range [][]int{h.Labels, h.Repair} {
		s += "/"
		for _, n := range l {
			s += strconv.Itoa(n) + ","
		}
	}
	return s
}

// P15.1: which Ops there are.
func TestCheckOp(t *testing.T) {
	for _, op := range append([]int{-4, -3, -2, -1, 4, 5, 6, 7, 8, 256, 257}, huge...) {
		for _, labels := range [][]int{nil, {}, {16}, {16, 17}} {
			checks(t, api.Hop{Op: op, Labels: labels, Backup: -1}, api.ErrHop)
		}
	}
	checks(t, api.Hop{Op: 0, Backup: -1}, api.OK)
	checks(t, api.Hop{Op: 1, Labels: []int{16}, Backup: -1}, api.OK)
	checks(t, api.Hop{Op: 2, Backup: -1}, api.OK)
	checks(t, api.Hop{Op: 3, Backup: -1}, api.OK)
}

// P15.1: which Ops have labels.
func TestCheckLabelsOfOp(t *testing.T) {
	for _, pipe := range []bool{false, true} {
		for _, empty := range [][]int{nil, {}} {
			checks(t, api.Hop{Op: api.Push, Labels: empty, Backup: -1, Pipe: pipe}, api.OK)
			checks(t, api.Hop{Op: api.Swap, Labels: empty, Backup: -1, Pipe: pipe}, api.ErrHop)
			checks(t, api.Hop{Op: api.Pop, Labels: empty, Backup: -1, Pipe: pipe}, api.OK)
			checks(t, api.Hop{Op: api.Here, Labels: empty, Backup: -1, Pipe: pipe}, api.OK)
		}
		for _, n := range []int{1, 2, 15, 16} {
			checks(t, api.Hop{Op: api.Push, Labels: many(n, 16), Backup: -1, Pipe: pipe}, api.OK)
			checks(t, api.Hop{Op: api.Swap, Labels: many(n, 16), Backup: -1, Pipe: pipe}, api.OK)
			checks(t, api.Hop{Op: api.Pop, Labels: many(n, 16), Backup: -1, Pipe: pipe}, api.ErrHop)
			checks(t, api.Hop{Op: api.Here, Labels: many(n, 16), Backup: -1, Pipe: pipe}, api.ErrHop)
		}
	}
}

// P15.1: how many labels, and what may be to repair.
func TestCheckDepth(t *testing.T) {
	for _, n := range []int{17, 18, 32, 33, 256, 1 << 16} {
		checks(t, api.Hop{Op: api.Push, Labels: many(n, 16), Backup: -1}, api.ErrDepth)
		checks(t, api.Hop{Op: api.Swap, Labels: many(n, 16), Backup: -1}, api.ErrDepth)
		for _, op := range []int{api.Push, api.Pop} {
			checks(t, api.Hop{Op: op, Backup: 1, Repair: many(n, 16)}, api.ErrDepth)
		}
		checks(t, api.Hop{Op: api.Swap, Labels: many(1, 16), Backup: 1, Repair: many(n, 16)}, api.ErrDepth)
	}
	for _, n := range []int{0, 1, 2, 15, 16} {
		for _, op := range []int{api.Push, api.Pop} {
			checks(t, api.Hop{Op: op, Backup: 1, Repair: many(n, 16)}, api.OK)
		}
		checks(t, api.Hop{Op: api.Push, Labels: many(n, 16), Backup: 1, Repair: many(16-n, 17)}, api.OK)
		checks(t, api.Hop{Op: api.Swap, Labels: many(16, 16), Backup: 1, Repair: many(n, 17)}, api.OK)
	}
}

// P15.1: which labels can be pushed, at each place of both lists.
func TestCheckLabel(t *testing.T) {
	for _, at := range []int{0, 1, 7, 15} {
		for _, label := range good {
			l := many(16, 16)
			l[at] = label
			checks(t, api.Hop{Op: api.Push, Labels: l, Backup: -1}, api.OK)
			checks(t, api.Hop{Op: api.Swap, Labels: l, Backup: 1, Repair: l}, api.OK)
			checks(t, api.Hop{Op: api.Pop, Backup: 1, Repair: l}, api.OK)
		}
		for _, label := range bad {
			l := many(16, 16)
			l[at] = label
			checks(t, api.Hop{Op: api.Push, Labels: l, Backup: -1}, api.ErrLabel)
			checks(t, api.Hop{Op: api.Swap, Labels: l, Backup: -1}, api.ErrLabel)
			checks(t, api.Hop{Op: api.Push, Backup: 1, Repair: l}, api.ErrLabel)
			checks(t, api.Hop{Op: api.Swap, Labels: many(1, 16), Backup: 1, Repair: l}, api.ErrLabel)
			checks(t, api.Hop{Op: api.Pop, Backup: 1, Repair: l}, api.ErrLabel)
		}
	}
}

// P15.1: the room behind a list's end plays no part.
func TestCheckAsksNothingBehindTheEnd(t *testing.T) {
	l := []int{16, 1, 3, -1}
	checks(t, api.Hop{Op: api.Swap, Labels: l[:1], Backup: 1, Repair: l[:1]}, api.OK)
	checks(t, api.Hop{Op: api.Pop, Labels: l[:0], Backup: -1, Repair: l[:0]}, api.OK)
}

// P15.1: which Port there may be.
func TestCheckPort(t *testing.T) {
	bad := append([]int{-64, -2, -1, 64, 65, 127, 128, 256}, huge...)
	for _, port := range bad {
		checks(t, api.Hop{Op: api.Push, Port: port, Backup: -1}, api.ErrPort)
		checks(t, api.Hop{Op: api.Swap, Labels: []int{16}, Port: port, Backup: 1}, api.ErrPort)
		checks(t, api.Hop{Op: api.Pop, Port: port, Backup: -1}, api.ErrPort)
		checks(t, api.Hop{Op: api.Here, Port: port, Backup: -1}, api.ErrPort)
	}
	for _, port := range []int{0, 1, 2, 31, 32, 62, 63} {
		checks(t, api.Hop{Op: api.Push, Port: port, Backup: -1}, api.OK)
		checks(t, api.Hop{Op: api.Swap, Labels: []int{16}, Port: port, Backup: -1}, api.OK)
		checks(t, api.Hop{Op: api.Pop, Port: port, Backup: -1}, api.OK)
		want := api.ErrPort
		if port == 0 {
			want = api.OK
		}
		checks(t, api.Hop{Op: api.Here, Port: port, Backup: -1}, want)
	}
}

// P15.1: which Backup there may be.
func TestCheckBackup(t *testing.T) {
	for _, h := range []api.Hop{{Op: api.Push, Port: 5}, {Op: api.Swap, Labels: []int{16}, Port: 5}, {Op: api.Pop, Port: 5}} {
		for backup := -80; backup < 80; backup++ {
			want := api.OK
			switch {
			case backup > 63:
				want = api.ErrPort
			case backup < -1 || backup == 5:
				want = api.ErrHop
			}
			h.Backup, h.Repair = backup, nil
			checks(t, h, want)
			if backup == -1 {
				want = api.ErrHop
			}
			h.Repair = []int{16}
			checks(t, h, want)
		}
		h.Backup, h.Repair = 0, []int{}
		checks(t, h, api.OK)
		h.Backup = -1
		checks(t, h, api.OK)
		for _, backup := range huge {
			want := api.ErrPort
			if backup < 0 {
				want = api.ErrHop
			}
			h.Backup = backup
			checks(t, h, want)
		}
	}
	for port := range 64 {
		checks(t, api.Hop{Op: api.Pop, Port: port, Backup: port}, api.ErrHop)
		checks(t, api.Hop{Op: api.Pop, Port: port, Backup: 63 - port}, api.OK)
	}
}

// P15.1: of Here there is none.
func TestCheckBackupOfHere(t *testing.T) {
	for _, repair := range [][]int{nil, {}, {16}} {
		for backup := -3; backup < 70; backup++ {
			want := api.ErrPort
			switch {
			case backup == -1 && len(repair) == 0:
				want = api.OK
			case backup < 0:
				want = api.ErrHop
			}
			checks(t, api.Hop{Op: api.Here, Backup: backup, Repair: repair}, want)
		}
		for _, backup := range huge {
			want := api.ErrPort
			if backup < 0 {
				want = api.ErrHop
			}
			checks(t, api.Hop{Op: api.Here, Backup: backup, Repair: repair}, want)
		}
	}
}

// P15.1: of several errors the one that is named first.
func TestCheckOrder(t *testing.T) {
	deep, wrong := many(17, 1), []int{1}
	for _, c := range []struct {
		h    api.Hop
		want api.Errno
	}{
		{api.Hop{Op: 4, Labels: deep, Port: 64, Backup: 64, Repair: deep}, api.ErrHop},
		{api.Hop{Op: -1, Labels: wrong, Port: -1, Backup: -2, Repair: wrong}, api.ErrHop},
		{api.Hop{Op: api.Swap, Port: 64, Backup: 64, Repair: deep}, api.ErrHop},
		{api.Hop{Op: api.Pop, Labels: deep, Port: 64, Backup: 64, Repair: deep}, api.ErrHop},
		{api.Hop{Op: api.Here, Labels: wrong, Port: 64, Backup: 64, Repair: deep}, api.ErrHop},
		{api.Hop{Op: api.Push, Labels: deep, Port: 64, Backup: 64, Repair: wrong}, api.ErrDepth},
		{api.Hop{Op: api.Push, Labels: wrong, Port: 64, Backup: -2, Repair: deep}, api.ErrDepth},
		{api.Hop{Op: api.Here, Port: 1, Backup: 1, Repair: deep}, api.ErrDepth},
		{api.Hop{Op: api.Push, Labels: wrong, Port: 64, Backup: 64}, api.ErrLabel},
		{api.Hop{Op: api.Push, Port: 64, Backup: -1, Repair: wrong}, api.ErrLabel},
		{api.Hop{Op: api.Pop, Backup: -2, Repair: wrong}, api.ErrLabel},
		{api.Hop{Op: api.Here, Port: 1, Backup: 1, Repair: wrong}, api.ErrLabel},
		{api.Hop{Op: api.Here, Port: 1, Backup: -2}, api.ErrPort},
		{api.Hop{Op: api.Here, Port: 1, Backup: 1}, api.ErrPort},
		{api.Hop{Op: api.Here, Backup: 0}, api.ErrPort},
		{api.Hop{Op: api.Pop, Port: 64, Backup: 64}, api.ErrPort},
		{api.Hop{Op: api.Pop, Port: -1, Backup: -1}, api.ErrPort},
		{api.Hop{Op: api.Pop, Port: -2, Backup: -2}, api.ErrPort},
		{api.Hop{Op: api.Pop, Port: 64, Backup: -1, Repair: []int{16}}, api.ErrPort},
		{api.Hop{}, api.ErrHop},
	} {
		checks(t, c.h, c.want)
	}
}

// P15.2: the chapter's example.
func TestExample(t *testing.T) {
	shows(t, api.Hop{Op: api.Swap, Labels: []int{17, 18}, Port: 2, Backup: 3, Repair: []int{19}}, "swap 17 18 port 2 backup 3 19")
}

// P15.2: each Op, with labels and without, with a backup, a repair and pipe, and without; P15.4: it is parsed.
func TestShow(t *testing.T) {
	shows(t, api.Hop{Op: api.Push, Backup: -1}, "push port 0")
	shows(t, api.Hop{Op: api.Push, Backup: -1, Pipe: true}, "push port 0 pipe")
	shows(t, api.Hop{Op: api.Push, Labels: []int{16}, Port: 1, Backup: -1}, "push 16 port 1")
	shows(t, api.Hop{Op: api.Push, Labels: []int{0, 2, 1048575}, Port: 63, Backup: 0}, "push 0 2 1048575 port 63 backup 0")
	shows(t, api.Hop{Op: api.Push, Labels: []int{2}, Backup: 63, Repair: []int{0, 16}, Pipe: true}, "push 2 port 0 backup 63 0 16 pipe")
	shows(t, api.Hop{Op: api.Push, Port: 9, Backup: 10, Repair: []int{2}}, "push port 9 backup 10 2")
	shows(t, api.Hop{Op: api.Swap, Labels: []int{0}, Port: 1, Backup: -1}, "swap 0 port 1")
	shows(t, api.Hop{Op: api.Swap, Labels: []int{100, 99}, Port: 10, Backup: -1, Pipe: true}, "swap 100 99 port 10 pipe")
	shows(t, api.Hop{Op: api.Swap, Labels: []int{17}, Port: 1, Backup: 2, Repair: []int{50}}, "swap 17 port 1 backup 2 50")
	shows(t, api.Hop{Op: api.Pop, Port: 1, Backup: -1}, "pop port 1")
	shows(t, api.Hop{Op: api.Pop, Port: 1, Backup: -1, Pipe: true}, "pop port 1 pipe")
	shows(t, api.Hop{Op: api.Pop, Port: 1, Backup: 0}, "pop port 1 backup 0")
	shows(t, api.Hop{Op: api.Pop, Port: 5, Backup: 6, Repair: []int{16, 2}, Pipe: true}, "pop port 5 backup 6 16 2 pipe")
	shows(t, api.Hop{Op: api.Here, Backup: -1}, "here")
	shows(t, api.Hop{Op: api.Here, Backup: -1, Pipe: true}, "here pipe")
}

// P15.2, P15.4: the longest text that there is.
func TestShowLong(t *testing.T) {
	digits := strings.Repeat(" 1048575", 16)
	shows(t, api.Hop{Op: api.Swap, Labels: many(16, 1048575), Port: 62, Backup: 63, Repair: many(16, 1048575), Pipe: true}, "swap"+digits+" port 62 backup 63"+digits+" pipe")
	for n := range 17 {
		shows(t, api.Hop{Op: api.Push, Labels: many(n, 16), Backup: 1, Repair: many(16-n, 17)}, "push"+strings.Repeat(" 16", n)+" port 0 backup 1"+strings.Repeat(" 17", 16-n))
	}
}

// P15.2: texts that Show doesn't make.
func TestParseNone(t *testing.T) {
	for _, s := range []string{
		"", " ", "  ", "push", "swap", "pop", "port", "port 1", "backup", "backup 1", "pipe", "16", "16 port 1",
		"push port", "push 16", "push 16 17", "pop 1", "pop port", "swap port 1", "swap 16 port", "push port backup 1", "push port 1 backup", "push port 1 backup pipe",
		"drop port 1", "Push port 1", "PUSH port 1", "push Port 1", "push port 1 PIPE", "push port 1 Backup 2", "Here", "HERE", "push port 1 pip", "pus port 1", "push por 1", "pushport 1", "push port1", "heres", "here.",
		"port 1 push", "port 1 pop", "16 push port 1", "push port 1 16", "pop port 1 16", "push pipe port 1", "push port 1 pipe backup 2", "pipe push port 1", "backup 2 push port 1", "push backup 2 port 1", "push port 1 16 backup 2", "pipe here", "push port 1 push", "port 1", "1 port",
		"push push port 1", "push pop port 1", "pop push port 1", "push 16 push 17 port 1", "push 16 push 16 port 1", "push port 1 port 1", "push port 1 port 2", "push port 1 1", "push port 1 backup 2 backup 2", "push port 1 backup 2 backup 3", "push port 1 pipe pipe", "here here", "here pipe pipe", "push port 1 here", "here pop port 0",
		" push port 1", "push port 1 ", "push  port 1", "push port  1", " here", "here ", "here  pipe", "here pipe ", "push 16  17 port 1", "push port 1  pipe", "push port 1 backup  2", "push port 1 backup 2  16",
		"push\tport 1", "push port 1\n", "\npush port 1", "push\nport\n1", "push port\u00a01", "push port 1\x00", "\x00", "\xff", "push \xff port 1", "here\xff",
		"push 016 port 1", "push 00 port 1", "push port 01", "push port 00", "push port 1 backup 02", "push port 1 backup 2 016", "push +16 port 1", "push -16 port 1", "push port +1", "push port -1", "push port -0", "push port 1 backup -1", "push port 1 backup +2", "push port 0x1", "push 1e2 port 1", "push 16.0 port 1", "push 16,17 port 1", "push \u0661\u0666 port 1", "push port \uff11",
		"push 1048576 port 1", "push 4294967312 port 1", "push 18446744073709551632 port 1", "push 99999999999999999999999999 port 1", "push port 64", "push port 256", "push port 4294967297", "push port 18446744073709551617", "push port 1 backup 64", "push port 1 backup 4294967298", "push port 1 backup 18446744073709551618", "push port 1 backup 18446744073709551615", "push port 1 backup 2 1048576", "push port 1 backup 2 18446744073709551632",
		"push 1 port 1", "push 3 port 1", "push 15 port 1", "push 16 3 port 1", "swap 3 port 1", "push port 1 backup 2 1", "push port 1 backup 2 3", "push port 1 backup 2 15", "push port 1 backup 2 16 15", "push port 1 backup 1", "push port 0 backup 0", "push port 1 backup 1 16",
		"pop 16 port 1", "pop 0 port 1", "here 16", "here 0", "here port 0", "here port 1", "here port 0 pipe", "here backup 1", "here backup 0", "here backup 1 16", "here port 0 backup 1", "here 16 pipe",
		"push port 1 pipe 16", "here pipe 16", "push port 1 pipe 1", "pipe 1", "push port 1 backup 2 pipe 16",
	} {
		lacks(t, s)
	}
}

// P15.2: lists that are too long, and texts far longer than any hop's.
func TestParseLong(t *testing.T) {
	for _, n := range []int{17, 18, 32, 33, 34, 35, 1000} {
		digits := strings.Repeat(" 16", n)
		for _, s := range []string{"push" + digits + " port 1", "swap" + digits + " port 1 pipe", "push port 1 backup 2" + digits, "pop port 1 backup 2" + digits + " pipe", "push port 1" + digits, "here" + digits, "here pipe" + digits} {
			lacks(t, s)
		}
	}
	const long = 1 << 20
	for _, s := range []string{" ", "1", "0", "16 ", " 16", "push ", "push", "here ", "here 16 ", "pipe ", "port 1 ", "backup 2 16 ", "push port 1 ", "\x00"} {
		all := strings.Repeat(s, long)
		lacks(t, all)
		lacks(t, "push"+all)
		lacks(t, "push "+all)
		lacks(t, "push port 1 "+all)
		lacks(t, all+"push port 1")
	}
}

// P15.2: what stays the same hop, and what doesn't, if it is taken, doubled or put into a text that is one.
func TestParseEdited(t *testing.T) {
	for _, s := range []string{"push 16 17 port 1 backup 2 18 19 pipe", "swap 0 port 63", "pop port 5 backup 0 16 2 pipe", "here pipe"} {
		for at := range len(s) + 1 {
			for _, mid := range []string{" ", "0", "1", "9", "p", "P", "-", "+", "\t", "\x00", "é", " 1", "1 ", " 16", " pipe"} {
				edits(t, s[:at]+mid+s[at:])
				if at < len(s) {
					edits(t, s[:at]+mid+s[at+1:])
				}
			}
			if at < len(s) {
				edits(t, s[:at]+s[at+1:])
				edits(t, s[:at]+strings.ToUpper(s[at:at+1])+s[at+1:])
			}
			edits(t, s[:at])
			edits(t, s[at:])
		}
		words := strings.Split(s, " ")
		for i := range words {
			for j := range words {
				w := slices.Clone(words)
				w[i], w[j] = w[j], w[i]
				edits(t, strings.Join(w, " "))
				edits(t, strings.Join(slices.Insert(slices.Clone(words), i, words[j]), " "))
			}
			edits(t, strings.Join(slices.Delete(slices.Clone(words), i, i+1), " "))
		}
	}
}

// edits asks for what the model tells of a text.
func edits(t *testing.T, s string) {
	t.Helper()
	want, is := model(s)
	if !is {
		lacks(t, s)
		return
	}
	shows(t, want, s)
}

var form = regexp.MustCompile(`^(push|swap|pop|here)((?: [0-9]+)*)(?: port ([0-9]+))?(?: backup ([0-9]+)((?: [0-9]+)*))?( pipe)?$`)

// model is Parse, by a form of texts, and by what P15.1 asks for.
func model(s string) (api.Hop, bool) {
	m := form.FindStringSubmatch(s)
	if m == nil || strings.HasSuffix(s, "\n") {
		return api.Hop{}, false
	}
	isHere := m[1] == "here"
	if isHere != (m[3] == "") || isHere && m[4] != "" {
		return api.Hop{}, false
	}
	all := true
	number := func(s string, may func(n int) bool) int {
		n, e := strconv.Atoi(s)
		all = all && e == nil && strconv.Itoa(n) == s && may(n)
		return n
	}
	isLabel := func(n int) bool { return n == 0 || n == 2 || n >= 16 && n <= 1048575 }
	isPort := func(n int) bool { return n <= 63 }
	h := api.Hop{Op: slices.Index([]string{"push", "swap", "pop", "here"}, m[1]), Backup: -1, Pipe: m[6] != ""}
	for _, f := range strings.Fields(m[2]) {
		h.Labels = append(h.Labels, number(f, isLabel))
	}
	if m[3] != "" {
		h.Port = number(m[3], isPort)
	}
	if m[4] != "" {
		h.Backup = number(m[4], isPort)
		all = all && h.Backup != h.Port
	}
	for _, f := range strings.Fields(m[5]) {
		h.Repair = append(h.Repair, number(f, isLabel))
	}
	all = all && len(h.Labels) <= 16 && len(h.Repair) <= 16
	all = all && (m[1] == "push" || (len(h.Labels) > 0) == (m[1] == "swap"))
	return h, all
}

// P15.2, P15.4: texts of words that are drawn, and hops that are drawn.
func TestDrawn(t *testing.T) {
	r := rand.New(rand.NewSource(15))
	words := []string{"push", "swap", "pop", "here", "port", "backup", "pipe", "0", "1", "2", "16", "63", "64", "1048575", "1048576", "", "015"}
	ones := 0
	for range 60000 {
		var l []string
		for range 1 + r.Intn(8) {
			l = append(l, words[r.Intn(len(words))])
		}
		if r.Intn(2) > 0 {
			l[0] = words[r.Intn(4)]
			l = append(l, "port", words[7+r.Intn(6)])
		}
		s := strings.Join(l, " ")
		edits(t, s)
		if _, is := model(s); is {
			ones++
		}
	}
	if ones < 100 {
		t.Errorf("only %d texts are hops", ones)
	}
	for range 20000 {
		h := drawn(r)
		shows(t, h, text(h))
	}
}

// drawn is a hop that may be.
func drawn(r *rand.Rand) api.Hop {
	labels := func(least int) []int {
		l := make([]int, least+r.Intn(17-least))
		for i := range l {
			l[i] = good[r.Intn(len(good))]
		}
		return l
	}
	h := api.Hop{Op: r.Intn(4), Backup: -1, Pipe: r.Intn(2) > 0}
	if h.Op < api.Pop {
		h.Labels = labels(h.Op)
	}
	if h.Op == api.Here {
		return h
	}
	h.Port = r.Intn(64)
	if b := r.Intn(64); b != h.Port {
		h.Backup, h.Repair = b, labels(0)
	}
	return h
}

// text is Show, word by word.
func text(h api.Hop) string {
	w := []string{[]string{"push", "swap", "pop", "here"}[h.Op]}
	for _, n := range h.Labels {
		w = append(w, strconv.Itoa(n))
	}
	if h.Op != 3 {
		w = append(w, "port", strconv.Itoa(h.Port))
	}
	if h.Backup != -1 {
		w = append(w, "backup", strconv.Itoa(h.Backup))
	}
	for _, n := range h.Repair {
		w = append(w, strconv.Itoa(n))
	}
	if h.Pipe {
		w = append(w, "pipe")
	}
	return strings.Join(w, " ")
}

// P15.2: what Parse tells is new memory each time, and its lists share none.
func TestParseIsNew(t *testing.T) {
	const s = "push 16 17 port 1 backup 2 18 19"
	a, _ := Parse(s)
	b, _ := Parse(s)
	_ = append(a.Labels, 99)
	_ = append(a.Repair, 99)
	for i := range a.Labels {
		a.Labels[i] = 98
	}
	if !slices.Equal(a.Repair, []int{18, 19}) {
		t.Errorf("lists share memory: %v", a)
	}
	for i := range a.Repair {
		a.Repair[i] = 97
	}
	if !slices.Equal(a.Labels, []int{98, 98}) || Show(b) != s {
		t.Errorf("what is told shares memory: %v, %v", a, b)
	}
	shows(t, b, s)
}

// sames asks for Same, both ways.
func sames(t *testing.T, a, b api.Hop, want bool) {
	t.Helper()
	ka, kb := key(a), key(b)
	if Same(a, b) != want || Same(b, a) != want {
		t.Errorf("Same of %v and %v isn't %v", a, b, want)
	}
	if key(a) != ka || key(b) != kb {
		t.Errorf("Same changes %v or %v", a, b)
	}
}

// P15.2: two hops that differ in one thing each; those that may not be, too.
func TestSame(t *testing.T) {
	base := func() api.Hop {
		return api.Hop{Op: api.Swap, Labels: []int{17, 18}, Port: 2, Backup: 3, Repair: []int{19, 20}, Pipe: true}
	}
	sames(t, base(), base(), true)
	h := base()
	sames(t, h, h, true)
	for i, change := range []func(h *api.Hop){
		func(h *api.Hop) { h.Op = api.Push },
		func(h *api.Hop) { h.Op = -1 },
		func(h *api.Hop) { h.Op += 1 << 32 },
		func(h *api.Hop) { h.Labels[0] = 16 },
		func(h *api.Hop) { h.Labels[1] += 1 << 32 },
		func(h *api.Hop) { h.Labels[0], h.Labels[1] = h.Labels[1], h.Labels[0] },
		func(h *api.Hop) { h.Labels = h.Labels[:1] },
		func(h *api.Hop) { h.Labels = h.Labels[1:] },
		func(h *api.Hop) { h.Labels = append(h.Labels, 0) },
		func(h *api.Hop) { h.Labels = nil },
		func(h *api.Hop) { h.Port = 1 },
		func(h *api.Hop) { h.Port += 256 },
		func(h *api.Hop) { h.Port, h.Backup = h.Backup, h.Port },
		func(h *api.Hop) { h.Backup = -1 },
		func(h *api.Hop) { h.Backup = math.MinInt },
		func(h *api.Hop) { h.Repair[1] = 21 },
		func(h *api.Hop) { h.Repair[0], h.Repair[1] = h.Repair[1], h.Repair[0] },
		func(h *api.Hop) { h.Repair = h.Repair[:1] },
		func(h *api.Hop) { h.Repair = append(h.Repair, 0) },
		func(h *api.Hop) { h.Repair = nil },
		func(h *api.Hop) { h.Labels, h.Repair = h.Repair, h.Labels },
		func(h *api.Hop) { h.Pipe = false },
	} {
		h := base()
		change(&h)
		sames(t, base(), h, false)
		sames(t, h, h, true)
		if Same(h, api.Hop{}) {
			t.Errorf("change %d: %v is the empty hop", i, h)
		}
	}
}

// P15.2: nil and empty lists are one; the room behind a list's end plays no part.
func TestSameEmpty(t *testing.T) {
	lists := [][]int{nil, {}, make([]int, 0, 4), []int{16}[:0]}
	for _, a := range lists {
		for _, b := range lists {
			sames(t, api.Hop{Labels: a, Repair: b}, api.Hop{Labels: b, Repair: a}, true)
			sames(t, api.Hop{Labels: a}, api.Hop{}, true)
			sames(t, api.Hop{Repair: b}, api.Hop{}, true)
			sames(t, api.Hop{Labels: []int{0}, Repair: a}, api.Hop{Labels: b}, false)
			sames(t, api.Hop{Labels: a, Repair: []int{0}}, api.Hop{Labels: b}, false)
		}
	}
	long := []int{16, 17, 18}
	sames(t, api.Hop{Labels: long[:1], Repair: long[:2]}, api.Hop{Labels: []int{16}, Repair: []int{16, 17}}, true)
	// One list longer than the other, and of the same numbers in all.
	sames(t, api.Hop{Labels: []int{16}, Repair: []int{17}}, api.Hop{Labels: []int{16, 17}}, false)
}

// guards asks for Guarded's answer, in memory of its own.
func guards(t *testing.T, h api.Hop, backup int, repair []int) {
	t.Helper()
	want := h
	want.Labels, want.Backup, want.Repair = slices.Clone(h.Labels), backup, slices.Clone(repair)
	before, behind := key(h), slices.Clone(repair)
	g := Guarded(h, backup, repair...)
	if !equal(g, want) {
		t.Errorf("Guarded of %v, %d, %v is %v", h, backup, repair, g)
	}
	apart := func(what string, mine []int, theirs ...[]int) {
		t.Helper()
		mine = mine[:cap(mine)]
		for i := range mine {
			mine[i] = -77
		}
		for _, l := range theirs {
			if slices.Contains(l[:cap(l)], -77) {
				t.Errorf("Guarded of %v, %d, %v: its %s share memory", h, backup, repair, what)
			}
		}
	}
	apart("Labels", g.Labels, h.Labels, h.Repair, repair, g.Repair)
	g = Guarded(h, backup, repair...)
	apart("Repair", g.Repair, h.Labels, h.Repair, repair, g.Labels)
	if key(h) != before || !slices.Equal(repair, behind) {
		t.Errorf("Guarded changes %v or %v", h, repair)
	}
}

// P15.3: hops with a repair and without, and those that may not be.
func TestGuarded(t *testing.T) {
	room := append(make([]int, 0, 8), 16, 17)
	for _, h := range []api.Hop{
		{},
		{Backup: -1},
		{Op: api.Swap, Labels: []int{17}, Port: 1, Backup: -1, Pipe: true},
		{Op: api.Swap, Labels: room, Port: 63, Backup: 2, Repair: []int{50, 51}},
		{Op: api.Pop, Labels: []int{}, Port: 2, Backup: 5, Repair: room[:1], Pipe: true},
		{Op: api.Here, Backup: -1},
		{Op: math.MinInt, Labels: many(40, -3), Port: math.MaxInt, Backup: 1 << 40, Repair: many(40, 1)},
	} {
		for _, backup := range append([]int{-2, -1, 0, 1, 2, 9, 63, 64}, huge...) {
			for _, repair := range [][]int{nil, {}, {16}, {20, 21}, room, room[:1], many(16, 99), many(17, 99), {-1, 1, math.MaxInt}} {
				guards(t, h, backup, repair)
			}
		}
	}
}

// P15.3: the caller changes its slices, and the answer's.
func TestGuardedStays(t *testing.T) {
	h := api.Hop{Op: api.Swap, Labels: []int{17}, Port: 1, Backup: 2, Repair: []int{50}}
	l := []int{20, 21}
	g := Guarded(h, 9, l...)
	l[0], h.Labels[0], h.Repair[0] = 99, 98, 97
	shows(t, g, "swap 17 port 1 backup 9 20 21")
	g.Labels[0], g.Repair[1] = 96, 95
	shows(t, h, "swap 98 port 1 backup 2 97")
	shows(t, Guarded(g, -1), "swap 96 port 1")
	shows(t, Guarded(api.Hop{Op: api.Pop, Port: 1, Backup: -1}, 0, 16), "pop port 1 backup 0 16")
	shows(t, Guarded(h, 63), "swap 98 port 1 backup 63")
	if l[1] != 21 {
		t.Errorf("the caller's list is %v", l)
	}
}

// P15.3: a hop and a repair of one memory.
func TestGuardedByItsOwn(t *testing.T) {
	h := api.Hop{Op: api.Swap, Labels: []int{17, 18}, Port: 1, Backup: -1}
	g := Guarded(h, 2, h.Labels...)
	shows(t, g, "swap 17 18 port 1 backup 2 17 18")
	g.Labels[0] = 99
	shows(t, g, "swap 99 18 port 1 backup 2 17 18")
	shows(t, h, "swap 17 18 port 1")
}
