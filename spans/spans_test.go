package spans

import (
	"math"
	"math/rand"
	"slices"
	"testing"

	"footplate/api"
)

// row is spans of firsts and lasts that take turns.
func row(ends ...int) []api.Span {
	var l []api.Span
	for i := 0; i+1 < len(ends); i += 2 {
		l = append(l, api.Span{First: ends[i], Last: ends[i+1]})
	}
	return l
}

// span is the span of two ends.
func span(first, last int) api.Span { return api.Span{First: first, Last: last} }

// all is the span of all labels.
func all() api.Span { return span(0, api.MaxLabel) }

// wrong is spans that may not be.
func wrong() []api.Span {
	return []api.Span{
		span(-1, 5), span(-1, -1), span(-1, api.MaxLabel), span(-20, 16), span(math.MinInt, 17),
		span(7, 6), span(17, 16), span(api.MaxLabel, 0), span(1, 0), span(0, -1), span(16, -1),
		span(16, api.MaxLabel+1), span(api.MaxLabel+1, api.MaxLabel+1), span(api.MaxLabel+1, api.MaxLabel), span(0, api.MaxLabel+1),
		span(16, math.MaxInt), span(math.MaxInt, math.MaxInt), span(math.MaxInt, math.MinInt),
		span(math.MinInt, math.MaxInt), span(math.MinInt, math.MinInt),
		span(0, 1<<32), span(1<<32, 1<<32+5), span(-1<<32, 5),
	}
}

// orders is a row in all its orders.
func orders(l []api.Span) [][]api.Span {
	if len(l) < 2 {
		return [][]api.Span{l}
	}
	var found [][]api.Span
	for i, s := range l {
		for _, others := range orders(slices.Delete(slices.Clone(l), i, i+1)) {
			found = append(found, append([]api.Span{s}, others...))
		}
	}
	return found
}

// roomy is a row with room behind its end, and what that room holds.
func roomy(l []api.Span) []api.Span {
	return append(slices.Clone(l), span(77, 78), span(79, 80), span(81, 82))[:len(l)]
}

// kept tells whether a roomy row, and the room behind it, reads as it did.
func kept(t *testing.T, handed, l []api.Span) {
	t.Helper()
	if !slices.Equal(handed, l) || !slices.Equal(handed[:len(l)+3][len(l):], row(77, 78, 79, 80, 81, 82)) {
		t.Errorf("%v became %v", l, handed[:len(l)+3])
	}
}

// norm asks for Norm.
func norm(t *testing.T, l, want []api.Span) {
	t.Helper()
	handed := roomy(l)
	if got := Norm(handed); !slices.Equal(got, want) {
		t.Errorf("Norm(%v) is %v, not %v", l, got, want)
	}
	kept(t, handed, l)
}

// add asks for Add.
func add(t *testing.T, l []api.Span, s api.Span, want []api.Span) {
	t.Helper()
	handed := roomy(l)
	if got := Add(handed, s); !slices.Equal(got, want) {
		t.Errorf("Add(%v, %v) is %v, not %v", l, s, got, want)
	}
	kept(t, handed, l)
}

// cut asks for Cut.
func cut(t *testing.T, l []api.Span, s api.Span, want []api.Span) {
	t.Helper()
	handed := roomy(l)
	if got := Cut(handed, s); !slices.Equal(got, want) {
		t.Errorf("Cut(%v, %v) is %v, not %v", l, s, got, want)
	}
	kept(t, handed, l)
}

// has asks for Has.
func has(t *testing.T, l []api.Span, s api.Span, want bool) {
	t.Helper()
	handed := roomy(l)
	if Has(handed, s) != want {
		t.Errorf("Has(%v, %v) isn't %v", l, s, want)
	}
	kept(t, handed, l)
}

// meets asks for Meets.
func meets(t *testing.T, l []api.Span, s api.Span, want bool) {
	t.Helper()
	handed := roomy(l)
	if Meets(handed, s) != want {
		t.Errorf("Meets(%v, %v) isn't %v", l, s, want)
	}
	kept(t, handed, l)
}

// first asks for a run that is there.
func first(t *testing.T, l []api.Span, size int, want api.Span) {
	t.Helper()
	handed := roomy(l)
	if got, is := First(handed, size); got != want || !is {
		t.Errorf("First(%v, %d) is %v, %v, not %v", l, size, got, is, want)
	}
	kept(t, handed, l)
}

// lacks asks for a run that isn't there.
func lacks(t *testing.T, l []api.Span, size int) {
	t.Helper()
	handed := roomy(l)
	if got, is := First(handed, size); got != (api.Span{}) || is {
		t.Errorf("First(%v, %d) is %v, %v, not nothing", l, size, got, is)
	}
	kept(t, handed, l)
}

// counts asks for Count and Longest.
func counts(t *testing.T, l []api.Span, count, longest int) {
	t.Helper()
	handed := roomy(l)
	if got := Count(handed); got != count {
		t.Errorf("Count(%v) is %d, not %d", l, got, count)
	}
	if got := Longest(handed); got != longest {
		t.Errorf("Longest(%v) is %d, not %d", l, got, longest)
	}
	kept(t, handed, l)
}

// P11.1: the chapter's examples.
func TestExamples(t *testing.T) {
	l := row(16, 19, 20, 29)
	norm(t, l, row(16, 29))
	cut(t, l, span(18, 24), row(16, 17, 25, 29))
	add(t, row(16, 19), span(20, 29), row(16, 29))
}

// P11.1: rows that have nothing.
func TestNormNone(t *testing.T) {
	norm(t, nil, nil)
	norm(t, []api.Span{}, nil)
	norm(t, wrong(), nil)
	for _, s := range wrong() {
		norm(t, []api.Span{s}, nil)
	}
}

// P11.1: rows rise, and none touches the next one, whatever their order was.
func TestNorm(t *testing.T) {
	for _, c := range []struct{ l, want []api.Span }{
		{row(16, 19), row(16, 19)},
		{row(16, 16), row(16, 16)},
		{row(0, 0), row(0, 0)},
		{row(api.MaxLabel, api.MaxLabel), row(api.MaxLabel, api.MaxLabel)},
		{row(0, 0, api.MaxLabel, api.MaxLabel), row(0, 0, api.MaxLabel, api.MaxLabel)},
		{row(0, api.MaxLabel), row(0, api.MaxLabel)},
		{row(0, api.MaxLabel, 16, 19), row(0, api.MaxLabel)},
		{row(0, 500000, 500001, api.MaxLabel), row(0, api.MaxLabel)},
		{row(0, 500000, 500002, api.MaxLabel), row(0, 500000, 500002, api.MaxLabel)},
		// The same twice.
		{row(16, 19, 16, 19), row(16, 19)},
		{row(16, 16, 16, 16, 16, 16), row(16, 16)},
		// They overlap.
		{row(16, 25, 20, 29), row(16, 29)},
		{row(16, 20, 20, 29), row(16, 29)},
		{row(16, 25, 20, 29, 28, 40), row(16, 40)},
		// They touch.
		{row(16, 19, 20, 29), row(16, 29)},
		{row(16, 16, 17, 17, 18, 18), row(16, 18)},
		// They lie one label apart.
		{row(16, 19, 21, 29), row(16, 19, 21, 29)},
		{row(16, 16, 18, 18, 20, 20), row(16, 16, 18, 18, 20, 20)},
		// One lies within another.
		{row(16, 29, 18, 20), row(16, 29)},
		{row(16, 29, 16, 20), row(16, 29)},
		{row(16, 29, 20, 29), row(16, 29)},
		{row(16, 29, 18, 20, 30, 31), row(16, 31)},
		{row(16, 29, 18, 20, 31, 32), row(16, 29, 31, 32)},
		{row(16, 29, 17, 18, 22, 23, 40, 41), row(16, 29, 40, 41)},
		// Each alone.
		{row(0, 9, 100, 109, 200, 209, 1000000, 1000009), row(0, 9, 100, 109, 200, 209, 1000000, 1000009)},
	} {
		for _, l := range orders(c.l) {
			norm(t, l, c.want)
			norm(t, append(l, wrong()...), c.want)
			norm(t, append(wrong(), l...), c.want)
		}
	}
}

// P11.1: what is put in joins what it touches.
func TestAdd(t *testing.T) {
	l := row(30, 39, 10, 14, 12, 19, -1, 5)
	for _, c := range []struct {
		s    api.Span
		want []api.Span
	}{
		{span(0, 0), row(0, 0, 10, 19, 30, 39)},
		{span(0, 8), row(0, 8, 10, 19, 30, 39)},
		{span(0, 9), row(0, 19, 30, 39)},
		{span(9, 9), row(9, 19, 30, 39)},
		{span(10, 10), row(10, 19, 30, 39)},
		{span(10, 19), row(10, 19, 30, 39)},
		{span(19, 20), row(10, 20, 30, 39)},
		{span(20, 20), row(10, 20, 30, 39)},
		{span(20, 29), row(10, 39)},
		{span(21, 28), row(10, 19, 21, 28, 30, 39)},
		{span(20, 28), row(10, 28, 30, 39)},
		{span(21, 29), row(10, 19, 21, 39)},
		{span(15, 34), row(10, 39)},
		{span(39, 50), row(10, 19, 30, 50)},
		{span(40, 50), row(10, 19, 30, 50)},
		{span(41, 50), row(10, 19, 30, 39, 41, 50)},
		{span(api.MaxLabel, api.MaxLabel), row(10, 19, 30, 39, api.MaxLabel, api.MaxLabel)},
		{span(5, 60), row(5, 60)},
		{all(), []api.Span{all()}},
	} {
		for _, l := range orders(l) {
			add(t, l, c.s, c.want)
		}
		add(t, nil, c.s, []api.Span{c.s})
		add(t, wrong(), c.s, []api.Span{c.s})
		add(t, []api.Span{c.s}, c.s, []api.Span{c.s})
		add(t, []api.Span{all()}, c.s, []api.Span{all()})
	}
}

// P11.1: of one that may not be nothing is put in, nor taken out.
func TestAddAndCutWrong(t *testing.T) {
	l := row(30, 39, 10, 14, 12, 19)
	for _, s := range wrong() {
		add(t, l, s, row(10, 19, 30, 39))
		cut(t, l, s, row(10, 19, 30, 39))
		add(t, nil, s, nil)
		cut(t, nil, s, nil)
		add(t, wrong(), s, nil)
		cut(t, wrong(), s, nil)
		cut(t, []api.Span{all()}, s, []api.Span{all()})
		cut(t, []api.Span{s}, s, nil)
	}
}

// P11.1: what is taken out of rows.
func TestCut(t *testing.T) {
	l := row(30, 39, 10, 14, 12, 19, 20, 20, 50, 59, 7, 6)
	for _, c := range []struct {
		s    api.Span
		want []api.Span
	}{
		// The front, the middle, the end.
		{span(10, 10), row(11, 20, 30, 39, 50, 59)},
		{span(5, 12), row(13, 20, 30, 39, 50, 59)},
		{span(12, 12), row(10, 11, 13, 20, 30, 39, 50, 59)},
		{span(11, 19), row(10, 10, 20, 20, 30, 39, 50, 59)},
		{span(20, 20), row(10, 19, 30, 39, 50, 59)},
		{span(15, 25), row(10, 14, 30, 39, 50, 59)},
		{span(59, 60), row(10, 20, 30, 39, 50, 58)},
		// All of a row, and more.
		{span(10, 20), row(30, 39, 50, 59)},
		{span(9, 21), row(30, 39, 50, 59)},
		{span(30, 39), row(10, 20, 50, 59)},
		{span(50, 59), row(10, 20, 30, 39)},
		{span(50, api.MaxLabel), row(10, 20, 30, 39)},
		{span(0, 20), row(30, 39, 50, 59)},
		// Several rows.
		{span(15, 34), row(10, 14, 35, 39, 50, 59)},
		{span(15, 55), row(10, 14, 56, 59)},
		{span(10, 39), row(50, 59)},
		{span(30, 59), row(10, 20)},
		{span(10, 59), nil},
		{span(11, 58), row(10, 10, 59, 59)},
		{all(), nil},
		// What isn't there.
		{span(0, 0), row(10, 20, 30, 39, 50, 59)},
		{span(0, 9), row(10, 20, 30, 39, 50, 59)},
		{span(21, 29), row(10, 20, 30, 39, 50, 59)},
		{span(45, 45), row(10, 20, 30, 39, 50, 59)},
		{span(60, api.MaxLabel), row(10, 20, 30, 39, 50, 59)},
		{span(api.MaxLabel, api.MaxLabel), row(10, 20, 30, 39, 50, 59)},
	} {
		for _, l := range orders(l) {
			cut(t, l, c.s, c.want)
		}
		cut(t, nil, c.s, nil)
		cut(t, []api.Span{c.s, c.s}, c.s, nil)
		cut(t, []api.Span{c.s}, all(), nil)
	}
}

// P11.1: what is taken out at the ends of all labels.
func TestCutEnds(t *testing.T) {
	l := []api.Span{all()}
	cut(t, l, span(0, 0), row(1, api.MaxLabel))
	cut(t, l, span(api.MaxLabel, api.MaxLabel), row(0, api.MaxLabel-1))
	cut(t, l, span(1, api.MaxLabel), row(0, 0))
	cut(t, l, span(0, api.MaxLabel-1), row(api.MaxLabel, api.MaxLabel))
	cut(t, l, span(1, api.MaxLabel-1), row(0, 0, api.MaxLabel, api.MaxLabel))
	cut(t, l, span(16, 16), row(0, 15, 17, api.MaxLabel))
	cut(t, l, all(), nil)
	cut(t, row(0, 0), span(0, 0), nil)
	cut(t, row(api.MaxLabel, api.MaxLabel), span(api.MaxLabel, api.MaxLabel), nil)
}

// P11.2: Has asks for all labels, whichever rows they are in.
func TestHas(t *testing.T) {
	l := row(20, 29, 50, 59, 10, 14, 12, 19, 31, 39, -1, 5)
	for _, l := range orders(l) {
		for _, s := range row(20, 29, 22, 25, 20, 20, 29, 29, 10, 10, 31, 39, 59, 59) {
			has(t, l, s, true) // in one row
		}
		for _, s := range row(19, 20, 15, 25, 10, 29, 14, 15, 10, 19) {
			has(t, l, s, true) // over rows that touch, and overlap
		}
		for _, s := range row(29, 31, 30, 30, 25, 35, 10, 39, 40, 49, 39, 50, 9, 10, 9, 9, 59, 60, 60, 60, 0, 0, 0, 100, 0, 5, 9, 60) {
			has(t, l, s, false) // over a gap, or nowhere
		}
		has(t, l, span(api.MaxLabel, api.MaxLabel), false)
		has(t, l, all(), false)
	}
	for _, s := range row(0, 0, 16, 19, api.MaxLabel, api.MaxLabel, 0, api.MaxLabel) {
		has(t, []api.Span{s}, s, true)
		has(t, []api.Span{all()}, s, true)
		has(t, row(0, 17, 18, api.MaxLabel), s, true)
		has(t, nil, s, false)
		has(t, wrong(), s, false)
	}
	has(t, row(0, 17, 19, api.MaxLabel), all(), false)
	has(t, row(1, api.MaxLabel), all(), false)
	has(t, row(0, api.MaxLabel-1), all(), false)
}

// P11.2: Meets asks for one label.
func TestMeets(t *testing.T) {
	l := row(30, 39, 10, 14, 12, 19, -1, 5, 70, 65)
	for _, l := range orders(l) {
		for _, s := range row(10, 10, 19, 19, 30, 30, 39, 39, 0, 10, 19, 29, 20, 30, 39, 60, 12, 17, 15, 35, 10, 39, 0, 100, 14, 14) {
			meets(t, l, s, true)
		}
		for _, s := range row(0, 9, 9, 9, 20, 29, 20, 20, 29, 29, 40, 40, 40, 60, 0, 0, 65, 70, 2, 5) {
			meets(t, l, s, false)
		}
		meets(t, l, span(api.MaxLabel, api.MaxLabel), false)
		meets(t, l, all(), true)
	}
	for _, s := range row(0, 0, 16, 19, api.MaxLabel, api.MaxLabel, 0, api.MaxLabel) {
		meets(t, []api.Span{s}, s, true)
		meets(t, []api.Span{all()}, s, true)
		meets(t, []api.Span{s}, all(), true)
		meets(t, nil, s, false)
		meets(t, wrong(), s, false)
	}
}

// P11.2: nothing is had of a span that may not be.
func TestHasAndMeetsWrong(t *testing.T) {
	for _, s := range wrong() {
		for _, l := range [][]api.Span{nil, {s}, {all()}, {all(), s}, wrong(), row(0, 5, 10, 20)} {
			has(t, l, s, false)
			meets(t, l, s, false)
		}
	}
}

// P11.2: the lowest span of a size.
func TestFirst(t *testing.T) {
	l := row(100, 104, 30, 39, 10, 12, 60, 64, 65, 69, -1, 50)
	for _, l := range orders(l) {
		first(t, l, 1, span(10, 10))
		first(t, l, 2, span(10, 11))
		first(t, l, 3, span(10, 12)) // just a row's size
		first(t, l, 4, span(30, 33)) // one more
		first(t, l, 5, span(30, 34))
		first(t, l, 10, span(30, 39))
		lacks(t, l, 11)
		counts(t, l, 28, 10)
	}
	l = row(60, 64, 30, 38, 65, 69, 10, 12)
	for _, l := range orders(l) {
		first(t, l, 9, span(30, 38))
		first(t, l, 10, span(60, 69)) // of rows that touch
		lacks(t, l, 11)
	}
}

// P11.2: sizes of which there is no span.
func TestFirstNone(t *testing.T) {
	for _, l := range [][]api.Span{nil, {}, row(0, 0), row(16, 19, 20, 29), {all()}, wrong()} {
		for _, size := range []int{0, -1, -2, -api.MaxLabel, math.MinInt, api.MaxLabel + 2, 1 << 32, math.MaxInt} {
			lacks(t, l, size)
		}
	}
	lacks(t, nil, 1)
	lacks(t, wrong(), 1)
	lacks(t, row(16, 19), 5)
	lacks(t, row(16, 19, 21, 29, 31, 39), 10)
}

// P11.2: the ends of all labels.
func TestFirstEnds(t *testing.T) {
	first(t, []api.Span{all()}, 1, span(0, 0))
	first(t, []api.Span{all()}, api.MaxLabel, span(0, api.MaxLabel-1))
	first(t, []api.Span{all()}, api.MaxLabel+1, all())
	lacks(t, []api.Span{all()}, api.MaxLabel+2)
	first(t, row(16, api.MaxLabel, 0, 15), api.MaxLabel+1, all())
	lacks(t, row(17, api.MaxLabel, 0, 15), api.MaxLabel+1)
	first(t, row(api.MaxLabel, api.MaxLabel), 1, span(api.MaxLabel, api.MaxLabel))
	lacks(t, row(api.MaxLabel, api.MaxLabel), 2)
	first(t, row(0, 0, api.MaxLabel-1, api.MaxLabel), 2, span(api.MaxLabel-1, api.MaxLabel))
}

// P11.2: labels are counted once.
func TestCountAndLongest(t *testing.T) {
	counts(t, nil, 0, 0)
	counts(t, []api.Span{}, 0, 0)
	counts(t, wrong(), 0, 0)
	counts(t, row(0, 0), 1, 1)
	counts(t, row(api.MaxLabel, api.MaxLabel), 1, 1)
	counts(t, row(0, 0, api.MaxLabel, api.MaxLabel), 2, 1)
	counts(t, []api.Span{all()}, api.MaxLabel+1, api.MaxLabel+1)
	counts(t, []api.Span{all(), all(), span(16, 19)}, api.MaxLabel+1, api.MaxLabel+1)
	counts(t, row(16, 19), 4, 4)
	counts(t, row(16, 19, 16, 19), 4, 4)
	counts(t, row(20, 29, 16, 19), 14, 14) // they touch
	counts(t, row(20, 29, 16, 25), 14, 14) // they overlap
	counts(t, row(16, 29, 18, 20), 14, 14) // one within another
	counts(t, row(16, 19, 21, 29), 13, 9)  // one label apart
	counts(t, row(21, 29, 16, 19, 40, 60, 70, 71), 36, 21)
}

// P11.1: an answer shares nothing with what was handed in, nor with another answer.
func TestNewMemory(t *testing.T) {
	l := row(16, 19, 30, 39)
	for name, ask := range map[string]func() []api.Span{
		"Norm":      func() []api.Span { return Norm(l) },
		"Add":       func() []api.Span { return Add(l, span(50, 59)) },
		"Add wrong": func() []api.Span { return Add(l, span(5, 4)) },
		"Cut":       func() []api.Span { return Cut(l, span(35, 35)) },
		"Cut none":  func() []api.Span { return Cut(l, span(50, 50)) },
		"Cut wrong": func() []api.Span { return Cut(l, span(5, 4)) },
	} {
		one, other := ask(), ask()
		for i := range one {
			one[i] = span(1, 2)
		}
		_ = append(one[:1], span(3, 4))
		if !slices.Equal(other, ask()) || !slices.Equal(l, row(16, 19, 30, 39)) {
			t.Errorf("%s shares memory", name)
		}
	}
}

// window is how many labels the model looks at.
const window = 12

// model is which labels rows have, from a base on.
type model struct {
	base int
	has  [window]bool
}

// modelled is the model of rows in a window, asked label by label.
func modelled(base int, l []api.Span) model {
	m := model{base: base}
	for _, s := range l {
		m.set(s, true)
	}
	return m
}

// set makes the labels of a span that may be there, or not there.
func (m *model) set(s api.Span, there bool) {
	if s.First < 0 || s.Last > api.MaxLabel {
		return
	}
	for i := range m.has {
		if s.First <= m.base+i && m.base+i <= s.Last {
			m.has[i] = there
		}
	}
}

// rows is the model's labels as rows.
func (m model) rows() []api.Span {
	var l []api.Span
	for i, there := range m.has {
		label := m.base + i
		switch {
		case !there:
		case i > 0 && m.has[i-1]:
			l[len(l)-1].Last = label
		default:
			l = append(l, span(label, label))
		}
	}
	return l
}

// among is how many labels of a span that may be there are, and how many it has.
func (m model) among(s api.Span) (there, of int) {
	if s.First < 0 || s.Last > api.MaxLabel {
		return 0, 0
	}
	for i, is := range m.has {
		if s.First <= m.base+i && m.base+i <= s.Last {
			of++
			if is {
				there++
			}
		}
	}
	return there, of
}

// first is the lowest span of a size, asked place by place.
func (m model) first(size int) (api.Span, bool) {
	for i := range window {
		s := span(m.base+i, m.base+i+size-1)
		if there, _ := m.among(s); size > 0 && there == size {
			return s, true
		}
	}
	return api.Span{}, false
}

// agree asks all of rows, and of them with a span, as the model answers.
func agree(t *testing.T, base int, l []api.Span, s api.Span) {
	t.Helper()
	m := modelled(base, l)
	norm(t, l, m.rows())
	there, of := m.among(s)
	has(t, l, s, of > 0 && there == of)
	meets(t, l, s, there > 0)
	count, _ := m.among(all())
	longest := 0
	for size := -1; size < window+2; size++ {
		if run, is := m.first(size); is {
			longest = size
			first(t, l, size, run)
		} else {
			lacks(t, l, size)
		}
	}
	counts(t, l, count, longest)
	with, without := m, m
	with.set(s, true)
	without.set(s, false)
	add(t, l, s, with.rows())
	cut(t, l, s, without.rows())
	if there == 0 {
		if got := Cut(Add(l, s), s); !slices.Equal(got, Norm(l)) {
			t.Errorf("%v with and without %v is %v", l, s, got)
		}
	}
}

// ends is the windows at both ends of all labels, and the lowest and the highest number that a span of theirs may begin or end with.
func ends() [][3]int {
	top := api.MaxLabel - window + 1
	return [][3]int{{0, -2, window - 1}, {top, top, api.MaxLabel + 2}}
}

// P11.1, P11.2, P11.3: all rows of two spans near both ends, and each span with them, as asked label by label.
func TestAllOfTwo(t *testing.T) {
	for _, end := range ends() {
		var some []api.Span
		from, to := end[1], end[1]+5
		if end[0] > 0 {
			from, to = end[2]-5, end[2]
		}
		for a := from; a <= to; a++ {
			for b := from; b <= to; b++ {
				some = append(some, span(a, b))
			}
		}
		for _, a := range some {
			for _, b := range some {
				for _, s := range some {
					agree(t, end[0], []api.Span{a, b}, s)
				}
			}
		}
	}
}

// P11.1, P11.2, P11.3: drawn rows, as asked label by label.
func TestModel(t *testing.T) {
	for seed := range int64(4000) {
		r := rand.New(rand.NewSource(seed))
		end := ends()[r.Intn(2)]
		draw := func() api.Span {
			number := func() int { return end[1] + r.Intn(end[2]-end[1]+1) }
			s := span(number(), number())
			if s.First > s.Last && r.Intn(4) > 0 {
				s.First, s.Last = s.Last, s.First
			}
			return s
		}
		var l []api.Span
		for range r.Intn(8) {
			l = append(l, draw())
		}
		for range 5 {
			agree(t, end[0], l, draw())
		}
		if t.Failed() {
			t.Fatalf("seed %d", seed)
		}
	}
}

// P11.3: what is added and cut again leaves the rows as they were, if they had none of it.
func TestAddAndCut(t *testing.T) {
	l := row(30, 39, 10, 14, 12, 19, 45, 44)
	for _, s := range row(0, 9, 9, 9, 0, 0, 20, 20, 20, 29, 29, 29, 22, 25, 40, 40, 40, 60, 50, api.MaxLabel, api.MaxLabel, api.MaxLabel) {
		for _, l := range orders(l) {
			cut(t, Add(l, s), s, row(10, 19, 30, 39))
		}
		cut(t, Add(nil, s), s, nil)
	}
	for _, s := range wrong() {
		cut(t, Add(l, s), s, row(10, 19, 30, 39))
	}
	// If they had some of it, that is gone.
	cut(t, Add(l, span(15, 25)), span(15, 25), row(10, 14, 30, 39))
}

// P11.1: of many rows nothing is lost.
func TestMany(t *testing.T) {
	var l, want []api.Span
	for i := api.MaxTable - 1; i >= 0; i-- {
		l = append(l, span(16*i, 16*i+3), span(16*i+4, 16*i+7))
	}
	for i := range api.MaxTable {
		want = append(want, span(16*i, 16*i+7))
	}
	if got := Norm(l); !slices.Equal(got, want) {
		t.Errorf("Norm of many rows is %d rows", len(got))
	}
	if got := Count(l); got != 8*api.MaxTable {
		t.Errorf("Count of many rows is %d", got)
	}
	if got := Cut(l, span(8, api.MaxLabel)); !slices.Equal(got, row(0, 7)) {
		t.Errorf("Cut of many rows is %d rows", len(got))
	}
}
