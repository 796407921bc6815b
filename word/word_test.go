package word_test

import (
	"math"
	"slices"
	"testing"

	"chamberlain/api"
	"chamberlain/word"
)

type row = []uint32

// allRows answers every row of at most n words that are ahead of kinds.
func allRows(n int, kinds uint32) []row {
	all := []row{nil}
	for last := all; n > 0; n-- {
		var longer []row
		for _, l := range last {
			for w := range kinds {
				longer = append(longer, append(slices.Clone(l), w))
			}
		}
		all = append(all, longer...)
		last = longer
	}
	return all
}

// P1.1: a draw's word is one whose bit of 2^31 is set.
func TestIsDraw(t *testing.T) {
	for _, x := range []struct {
		w    uint32
		want bool
	}{
		{0, false}, {1, false}, {1 << 30, false}, {1<<31 - 1, false},
		{1 << 31, true}, {1<<31 + 1, true}, {1<<31 | 1<<30, true}, {math.MaxUint32, true},
	} {
		if got := word.IsDraw(x.w); got != x.want {
			t.Errorf("IsDraw(%d) = %v", x.w, got)
		}
	}
	for bit := range 32 {
		if got := word.IsDraw(1 << bit); got != (bit == 31) {
			t.Errorf("IsDraw(2^%d) = %v", bit, got)
		}
	}
}

// P1.1: Draw sets the bit of 2^31, and leaves the others.
func TestDraw(t *testing.T) {
	for _, x := range []struct{ n, want uint32 }{
		{0, api.DrawBit}, {1, api.DrawBit + 1}, {7, 2147483655},
		{1 << 30, 3 << 30}, {1<<31 - 1, math.MaxUint32},
		{api.DrawBit, api.DrawBit}, {api.DrawBit + 5, api.DrawBit + 5}, {math.MaxUint32, math.MaxUint32},
	} {
		if got := word.Draw(x.n); got != x.want {
			t.Errorf("Draw(%d) = %d, want %d", x.n, got, x.want)
		}
		if !word.IsDraw(word.Draw(x.n)) {
			t.Errorf("Draw(%d) is no draw's word", x.n)
		}
	}
}

// P1.1: Has asks of each word, the first and the last one too, and of all 32 bits.
func TestHas(t *testing.T) {
	l := row{5, 2, api.DrawBit + 7, 2, 9}
	for _, x := range []struct {
		l    row
		w    uint32
		want bool
	}{
		{l, 5, true}, {l, 2, true}, {l, 9, true}, {l, api.DrawBit + 7, true},
		{l, 7, false}, {l, api.DrawBit + 5, false}, {l, 0, false}, {l, math.MaxUint32, false},
		{nil, 0, false}, {row{}, 0, false}, {row{0}, 0, true}, {row{1}, 0, false},
		{l[:4], 9, false}, {l[1:], 5, false},
	} {
		if got := word.Has(x.l, x.w); got != x.want {
			t.Errorf("Has(%v, %d) = %v", x.l, x.w, got)
		}
	}
}

// P1.1: Same asks for the same words in one order; nil and empty rows are one.
func TestSame(t *testing.T) {
	for _, x := range []struct {
		a, b row
		want bool
	}{
		{nil, nil, true}, {nil, row{}, true}, {row{}, row{}, true},
		{row{0}, nil, false}, {row{0}, row{}, false},
		{row{1, 2, 3}, row{1, 2, 3}, true},
		{row{1, 2, 3}, row{1, 2}, false}, {row{1, 2, 3}, row{1, 2, 3, 0}, false},
		{row{1, 2, 3}, row{4, 2, 3}, false}, {row{1, 2, 3}, row{1, 4, 3}, false}, {row{1, 2, 3}, row{1, 2, 4}, false},
		{row{1, 2, 3}, row{3, 2, 1}, false}, {row{1, 2, 2}, row{1, 1, 2}, false},
		{row{1}, row{api.DrawBit + 1}, false}, {row{api.DrawBit + 1}, row{api.DrawBit + 1}, true},
	} {
		if word.Same(x.a, x.b) != x.want || word.Same(x.b, x.a) != x.want {
			t.Errorf("Same(%v, %v) isn't %v, in one order or the other", x.a, x.b, x.want)
		}
	}
}

// P1.2: Find answers the least place, 0 for an empty part, and 0 and false of what isn't found.
func TestFind(t *testing.T) {
	l := row{1, 2, 1, 2, 3}
	for _, x := range []struct {
		l, part row
		at      int
		ok      bool
	}{
		{row{1, 2, 3, 2}, row{2}, 1, true},
		{l, row{1}, 0, true}, {l, row{2}, 1, true}, {l, row{3}, 4, true},
		{l, row{1, 2}, 0, true}, {l, row{1, 2, 3}, 2, true}, {l, row{2, 3}, 3, true}, {l, l, 0, true},
		{l, nil, 0, true}, {l, row{}, 0, true}, {nil, nil, 0, true}, {nil, row{}, 0, true}, {row{}, nil, 0, true},
		{l, row{4}, 0, false}, {l, row{3, 1}, 0, false}, {l, row{1, 3}, 0, false}, {l, row{2, 3, 0}, 0, false},
		{l, row{1, 2, 1, 2, 3, 1}, 0, false}, {nil, row{0}, 0, false}, {row{}, row{0}, 0, false}, {row{1}, row{1, 1, 1}, 0, false},
		{row{1, 1, 2}, row{1, 2}, 1, true}, {row{1, 1, 1, 2}, row{1, 1, 2}, 1, true},
		{row{api.DrawBit + 1, 1}, row{1}, 1, true}, {row{1, api.DrawBit + 1}, row{api.DrawBit + 1}, 1, true}, {row{1}, row{api.DrawBit + 1}, 0, false},
	} {
		if at, ok := word.Find(x.l, x.part); at != x.at || ok != x.ok {
			t.Errorf("Find(%v, %v) = %d, %v, want %d, %v", x.l, x.part, at, ok, x.at, x.ok)
		}
	}
}

// P1.2: what stands in the room behind a row's length isn't its words.
func TestRoomBehindIsNoWords(t *testing.T) {
	l := row{1, 2, 3, 4}[:2]
	if at, ok := word.Find(l, row{2, 3}); at != 0 || ok {
		t.Error("Find", at, ok)
	}
	if c, ok := word.Cut(l, 0, 3); len(c) != 0 || ok {
		t.Error("Cut", c, ok)
	}
	if word.Has(l, 3) || !word.Same(l, row{1, 2}) {
		t.Error("Has or Same")
	}
}

// P1.2: Cut answers the words between two places, and nothing of places that may not be.
func TestCut(t *testing.T) {
	l := row{1, 2, api.DrawBit + 3, 4}
	for _, x := range []struct {
		l        row
		from, to int
		want     row
		ok       bool
	}{
		{row{1, 2, 3}, 1, 3, row{2, 3}, true},
		{l, 0, 4, l, true}, {l, 0, 1, row{1}, true}, {l, 3, 4, row{4}, true}, {l, 1, 3, row{2, api.DrawBit + 3}, true},
		{l, 0, 0, nil, true}, {l, 2, 2, nil, true}, {l, 4, 4, nil, true},
		{nil, 0, 0, nil, true}, {row{}, 0, 0, nil, true},
		{l, -1, 2, nil, false}, {l, -1, -1, nil, false}, {l, 0, -1, nil, false}, {l, -2, -1, nil, false},
		{l, 3, 2, nil, false}, {l, 4, 0, nil, false}, {l, 5, 4, nil, false},
		{l, 0, 5, nil, false}, {l, 4, 5, nil, false}, {l, 5, 5, nil, false},
		{nil, 0, 1, nil, false}, {nil, 1, 1, nil, false}, {nil, -1, 0, nil, false}, {row{}, 0, 1, nil, false},
		{l, math.MinInt, math.MaxInt, nil, false}, {l, math.MinInt, 0, nil, false}, {l, 0, math.MaxInt, nil, false},
		{l, math.MaxInt, math.MinInt, nil, false}, {l, math.MaxInt, math.MaxInt, nil, false}, {l, math.MinInt, math.MinInt, nil, false},
	} {
		if c, ok := word.Cut(x.l, x.from, x.to); !slices.Equal(c, x.want) || ok != x.ok {
			t.Errorf("Cut(%v, %d, %d) = %v, %v, want %v, %v", x.l, x.from, x.to, c, ok, x.want, x.ok)
		}
	}
}

// P1.3: of all short rows, whatever is cut is found, where it was cut or ahead of that.
func TestCutIsFound(t *testing.T) {
	for _, l := range allRows(5, 3) {
		for from := range len(l) + 1 {
			for to := from; to <= len(l); to++ {
				part, ok := word.Cut(l, from, to)
				if !ok || !slices.Equal(part, l[from:to]) {
					t.Fatalf("Cut(%v, %d, %d) = %v, %v", l, from, to, part, ok)
				}
				at, ok := word.Find(l, part)
				if !ok || at > from || !slices.Equal(l[at:at+len(part)], part) {
					t.Fatalf("Find(%v, %v) = %d, %v, cut at %d", l, part, at, ok, from)
				}
			}
		}
	}
}

// P1.3, turned about: what is found is what is cut there, at no place ahead of it, and what isn't is cut nowhere.
func TestFoundIsCut(t *testing.T) {
	for _, l := range allRows(5, 2) {
		for _, part := range allRows(4, 2) {
			wantAt, want := 0, false
			for from := len(l) - len(part); from >= 0; from-- {
				c, ok := word.Cut(l, from, from+len(part))
				if ok && word.Same(c, part) {
					wantAt, want = from, true
				}
			}
			if at, ok := word.Find(l, part); at != wantAt || ok != want {
				t.Fatalf("Find(%v, %v) = %d, %v, want %d, %v", l, part, at, ok, wantAt, want)
			}
		}
	}
}

// P1.4: no call changes a row, nor what stands around it and in the room behind its length.
func TestHandedInStays(t *testing.T) {
	whole := row{9, 1, 2, 1, 2, 8, 7}
	part := row{6, 1, 2, 5, 4}
	wholeWas, partWas := slices.Clone(whole), slices.Clone(part)
	l, p := whole[1:5], part[1:3]
	word.Find(l, p)
	word.Find(l, nil)
	word.Find(p, l)
	word.Has(l, 2)
	word.Has(l, 8)
	word.Same(l, p)
	word.Same(l, l)
	for from := -1; from <= len(l)+3; from++ {
		for to := -1; to <= len(l)+3; to++ {
			c, _ := word.Cut(l, from, to)
			overwrite(c, 77) // an answer of nothing has no room of the row's either
		}
	}
	if !slices.Equal(whole, wholeWas) || !slices.Equal(part, partWas) {
		t.Error(whole, part)
	}
}

// P1.4: what Cut answers, its room included, is no memory of the row's, nor of another answer's.
func TestCutIsNewMemory(t *testing.T) {
	for from := range 5 {
		for to := from; to <= 4; to++ {
			whole := row{9, 1, 2, 3, 4, 8, 7}
			was := slices.Clone(whole)
			l := whole[1:5]
			one, _ := word.Cut(l, from, to)
			two, _ := word.Cut(l, from, to)
			overwrite(one, 77)
			if !slices.Equal(whole, was) || !slices.Equal(two, was[1+from:1+to]) {
				t.Errorf("Cut %d to %d: a write into it is seen in %v, %v", from, to, whole, two)
			}
			overwrite(whole, 66)
			if !slices.Equal(two, was[1+from:1+to]) {
				t.Errorf("Cut %d to %d: a write into the row is seen in %v", from, to, two)
			}
		}
	}
}

// overwrite fills a row and the room behind its length.
func overwrite(l row, w uint32) {
	l = l[:cap(l)]
	for i := range l {
		l[i] = w
	}
}
