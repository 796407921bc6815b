package draw_test

import (
	"math"
	"slices"
	"testing"

	"chamberlain/api"
	"chamberlain/draw"
)

type row = []uint32

// most is the greatest Next, and the greatest n, that the promises speak of.
const most = 1 << 20

// mixed has words below 2^30, from there on, at 2^31 - 1, and such as are a draw's already; some of them are alike.
var mixed = row{0, 7, 1<<30 - 1, 1 << 30, 1<<30 | 5, 1<<31 - 1, 1 << 31, 1<<31 | 7, 3 << 30, 3<<30 | 1, math.MaxUint32, 7}

// lists are lists of sources: without words, of one, of some.
var lists = []row{nil, {}, {0}, {7}, {1 << 30}, {1<<31 - 1}, {1<<31 | 6}, {math.MaxUint32}, {5, 1<<31 | 6, math.MaxUint32}, {4, 4, 4}, mixed}

// nth tells the chapter's words anew: the i-th draw of a list.
func nth(list row, i int) uint32 {
	if i >= len(list) {
		return 3221225472 | uint32(i)
	}
	return list[i] | 2147483648
}

// between answers the draws of a list from one place on, ahead of another one.
func between(list row, from, to int) row {
	var l row
	for i := from; i < to; i++ {
		l = append(l, nth(list, i))
	}
	return l
}

// places answers the Nexts of a source of that list that are edges, and those beside them.
func places(list row) []int {
	var l []int
	for i := range len(list) + 5 {
		l = append(l, i)
	}
	return append(l, 100, 1<<16, most-1, most)
}

func sameSource(d api.Draws, list row, next int) bool {
	return slices.Equal(d.List, list) && d.Next == next
}

// P4.1: the draws of a list's words, and of the places behind its end, written out.
func TestTakeWrittenOut(t *testing.T) {
	for _, x := range []struct {
		list row
		next int
		want uint32
	}{
		{row{7}, 0, 1<<31 + 7}, {row{7}, 1, 1<<31 + 1<<30 + 1}, {row{7}, 2, 1<<31 + 1<<30 + 2},
		{nil, 0, 3 << 30}, {row{}, 0, 3 << 30}, {nil, 1, 3<<30 + 1}, {row{}, most, 3<<30 + most}, {nil, most, 3222274048},
		{row{0, 0}, 0, 1 << 31}, {row{0, 0}, 1, 1 << 31}, {row{0, 0}, 2, 3<<30 + 2},
		{row{1<<30 - 1}, 0, 1<<31 + 1<<30 - 1}, {row{1 << 30}, 0, 3 << 30}, {row{1<<30 + 5}, 0, 3<<30 + 5},
		{row{1<<31 - 1}, 0, math.MaxUint32}, {row{1 << 31}, 0, 1 << 31}, {row{1<<31 + 6}, 0, 1<<31 + 6},
		{row{3 << 30}, 0, 3 << 30}, {row{math.MaxUint32}, 0, math.MaxUint32},
		{row{9, 8}, 1, 1<<31 + 8}, {row{9, 8}, most - 1, 3<<30 + most - 1}, {row{9, 8}, most, 3<<30 + most},
	} {
		d, w := draw.Take(api.Draws{List: x.list, Next: x.next})
		if w != x.want || !sameSource(d, x.list, x.next+1) {
			t.Errorf("Take of %v at %d: %v, %d, want %d", x.list, x.next, d, w, x.want)
		}
	}
}

// P4.1: at whatever Next, Take moves it by one, leaves the List, and answers the draw of that Next.
func TestTake(t *testing.T) {
	for _, list := range lists {
		for _, next := range places(list) {
			d, w := draw.Take(api.Draws{List: list, Next: next})
			if w != nth(list, next) || !sameSource(d, list, next+1) {
				t.Errorf("Take of %v at %d: %v, %d", list, next, d, w)
			}
		}
	}
}

// P4.1: Peek answers the next n draws, Drawn those ahead of Next, and the source stays where it is.
func TestPeekAndDrawn(t *testing.T) {
	for _, list := range lists {
		for _, next := range places(list) {
			d := api.Draws{List: list, Next: next}
			for _, n := range []int{0, 1, 2, 3, len(list), len(list) + 1, 20} {
				if l := draw.Peek(d, n); !slices.Equal(l, between(list, next, next+n)) {
					t.Errorf("Peek(%v at %d, %d): %v", list, next, n, l)
				}
			}
			if l := draw.Drawn(d); !slices.Equal(l, between(list, 0, next)) {
				t.Errorf("Drawn of %v at %d: %d words", list, next, len(l))
			}
			if !sameSource(d, list, next) {
				t.Error(d)
			}
			if again, w := draw.Take(d); w != nth(list, next) || again.Next != next+1 {
				t.Error(again, w)
			}
		}
	}
}

// P4.1: the examples of rows, written out.
func TestRowsWrittenOut(t *testing.T) {
	d := api.Draws{List: row{5, 1<<31 + 6, math.MaxUint32}, Next: 1}
	if l := draw.Peek(d, 4); !slices.Equal(l, row{1<<31 + 6, math.MaxUint32, 3<<30 + 3, 3<<30 + 4}) {
		t.Error(l)
	}
	if l := draw.Drawn(d); !slices.Equal(l, row{1<<31 + 5}) {
		t.Error(l)
	}
	d.Next = 5
	if l := draw.Drawn(d); !slices.Equal(l, row{1<<31 + 5, 1<<31 + 6, math.MaxUint32, 3<<30 + 3, 3<<30 + 4}) {
		t.Error(l)
	}
	for _, d := range []api.Draws{{}, {List: row{}}, {List: row{1, 2}}, {List: row{1, 2}, Next: 1}, {List: row{1, 2}, Next: most}} {
		if l := draw.Peek(d, 0); len(l) != 0 {
			t.Error(d, l)
		}
		if d.Next = 0; len(draw.Drawn(d)) != 0 {
			t.Error(d, draw.Drawn(d))
		}
	}
}

// P4.1: a Next and an n of 2^20, of lists that end ahead of them, there, and behind them.
func TestGreatNumbers(t *testing.T) {
	long := make(row, 2*most+3)
	for i := range long {
		long[i] = uint32(i) * 2654435761
	}
	for _, list := range []row{nil, mixed, long[:most-1], long[:most], long[:most+1], long[:2*most-1], long[:2*most], long} {
		for _, next := range []int{0, 1, most - 1, most} {
			d := api.Draws{List: list, Next: next}
			if l := draw.Peek(d, most); !slices.Equal(l, between(list, next, next+most)) {
				t.Errorf("Peek of %d words at %d: %d draws, or others", len(list), next, len(l))
			}
			if l := draw.Drawn(d); !slices.Equal(l, between(list, 0, next)) {
				t.Errorf("Drawn of %d words at %d: %d draws, or others", len(list), next, len(l))
			}
			if n, w := draw.Take(d); w != nth(list, next) || n.Next != next+1 || len(n.List) != len(list) {
				t.Errorf("Take of %d words at %d: %d, %d", len(list), next, n.Next, w)
			}
		}
	}
}

// P4.1: the room behind a list's length holds none of its words.
func TestRoomBehindIsNoWords(t *testing.T) {
	d := api.Draws{List: row{1, 2, 3, 4}[:2]}
	if l := draw.Peek(d, 4); !slices.Equal(l, row{1<<31 + 1, 1<<31 + 2, 3<<30 + 2, 3<<30 + 3}) {
		t.Error(l)
	}
	d.Next = 2
	if _, w := draw.Take(d); w != 3<<30+2 {
		t.Error(w)
	}
	if !draw.Unlike(row{1, 2, 1, 2}[:2]) {
		t.Error("Unlike looks behind the length")
	}
}

// P4.1, P4.3: draws come in order, each once: what was drawn, and then what is to come, are one behind the other.
func TestDrawnAndToCome(t *testing.T) {
	for _, list := range lists {
		d := api.Draws{List: list}
		all := between(list, 0, len(list)+10)
		var taken row
		for i := range all {
			if !slices.Equal(draw.Drawn(d), taken) {
				t.Fatalf("Drawn of %v: %v, where %v were", d, draw.Drawn(d), taken)
			}
			if l := append(draw.Drawn(d), draw.Peek(d, len(all)-i)...); !slices.Equal(l, all) {
				t.Fatalf("drawn and to come of %v: %v", d, l)
			}
			next, w := draw.Take(d)
			if first := draw.Peek(d, 1); len(first) != 1 || first[0] != w {
				t.Fatalf("Peek of %v: %v, and Take: %d", d, first, w)
			}
			taken, d = append(taken, w), next
		}
		if !slices.Equal(taken, all) || !sameSource(d, list, len(all)) {
			t.Error(list, taken, d)
		}
	}
}

// P4.3: up to 2^20 draws and beyond: what was drawn, and what is to come, join at each edge.
func TestDrawnAndToComeFarOn(t *testing.T) {
	all := between(mixed, 0, 2*most)
	for _, next := range places(mixed) {
		d := api.Draws{List: mixed, Next: next}
		if l := append(draw.Drawn(d), draw.Peek(d, most)...); !slices.Equal(l, all[:next+most]) {
			t.Errorf("at %d: %d words", next, len(l))
		}
	}
	if !draw.Unlike(draw.Peek(api.Draws{Next: most}, most)) || !draw.Unlike(draw.Drawn(api.Draws{Next: most})) {
		t.Error("two draws behind a list's end are alike")
	}
}

// upTo answers the words from 0 on, ahead of n.
func upTo(n int) row {
	l := make(row, n)
	for i := range l {
		l[i] = uint32(i)
	}
	return l
}

// P4.2: is no word there twice?
func TestUnlike(t *testing.T) {
	for _, x := range []struct {
		l    row
		want bool
	}{
		{nil, true}, {row{}, true},
		{row{0}, true}, {row{7}, true}, {row{math.MaxUint32}, true},
		{row{0, 0}, false}, {row{7, 7}, false}, {row{math.MaxUint32, math.MaxUint32}, false}, {row{1 << 31, 1 << 31}, false},
		{row{1, 2}, true}, {row{2, 1}, true}, {row{0, math.MaxUint32}, true}, {row{math.MaxUint32, 0}, true},
		{row{1, 1 << 31}, true}, {row{1, 1<<31 + 1}, true}, {row{1<<31 + 1, 1<<30 + 1, 3<<30 + 1, 1}, true}, {row{1, 1<<16 + 1, 1<<8 + 1}, true},
		{row{1, 2, 3, 2}, false}, {row{2, 1, 3, 2}, false}, {row{3, 1, 2, 2}, false}, {row{2, 2, 1, 3}, false}, {row{9, 2, 5, 2, 1}, false},
		{row{1<<31 + 4, 4, 1<<31 + 4}, false}, {row{1<<31 + 4, 4, 1<<30 + 4}, true}, {row{5, 5, 5}, false}, {row{3, 1, 2}, true}, {mixed, false}, {mixed[:11], true},
	} {
		if got := draw.Unlike(x.l); got != x.want {
			t.Errorf("Unlike(%v) = %v", x.l, got)
		}
	}
}

// P4.2: one word put in the place of another one, at whatever two places, is seen.
func TestUnlikeAtAnyTwoPlaces(t *testing.T) {
	for n := 2; n <= 12; n++ {
		for at := range n {
			for from := range n {
				l := upTo(n)
				l[at] = l[from]
				if got := draw.Unlike(l); got != (at == from) {
					t.Errorf("Unlike(%v) = %v", l, got)
				}
				slices.Reverse(l)
				if got := draw.Unlike(l); got != (at == from) {
					t.Errorf("Unlike(%v) = %v", l, got)
				}
			}
		}
	}
}

// P4.2: many words, of which all are unlike, or just two are alike, far from one another or side by side.
func TestUnlikeOfMany(t *testing.T) {
	l := upTo(most + 1)
	for i := range l {
		l[i] *= 2654435761 // odd, so that no two become alike
	}
	if !draw.Unlike(l) {
		t.Error("many that are unlike")
	}
	for _, x := range [][2]int{{0, most}, {most, 0}, {0, 1}, {most - 1, most}, {most / 2, most/2 + 1}, {3, most - 3}} {
		was := l[x[0]]
		l[x[0]] = l[x[1]]
		if draw.Unlike(l) {
			t.Error("two are alike, at", x)
		}
		l[x[0]] = was
	}
	if draw.Unlike(make(row, most)) {
		t.Error("many zeros")
	}
}

// overwrite fills a row and the room behind its length.
func overwrite(l row, w uint32) {
	l = l[:cap(l)]
	for i := range l {
		l[i] = w
	}
}

// P4.4: no call changes a list or a row, nor what stands around it and in the room behind its length.
func TestHandedInStays(t *testing.T) {
	whole := row{99, 7, 3, 1<<31 | 2, 3, 88, 77}
	was := slices.Clone(whole)
	for from := range len(whole) + 1 {
		for to := from; to <= len(whole); to++ {
			l := whole[from:to]
			draw.Unlike(l)
			for _, next := range places(l) {
				d := api.Draws{List: l, Next: next}
				draw.Take(d)
				overwrite(draw.Peek(d, 0), 55)
				overwrite(draw.Peek(d, 9), 55)
				_ = append(draw.Peek(d, 1), 55, 55)
				if next <= len(l)+5 {
					overwrite(draw.Drawn(d), 55)
				}
				if d.Next != next || len(d.List) != to-from {
					t.Error(d)
				}
			}
		}
	}
	if !slices.Equal(whole, was) {
		t.Error(whole)
	}
}

// P4.4: rows of draws are new memory: what is written into one, or into its room, is seen in no other, nor in the list; what is written into the list is seen in none.
func TestAnsweredIsNewMemory(t *testing.T) {
	// Draws' words, and all of one list, so that they might be handed out as they stand.
	for _, n := range []int{1, 2, 3, 4, 5, 9} {
		list := row{1 << 31, 1<<31 | 1, 1<<31 | 2, 1<<31 | 3, 55, 55}[:4]
		was := slices.Clone(list)
		d := api.Draws{List: list}
		end := api.Draws{List: list, Next: n}
		peeked, drawn := draw.Peek(d, n), draw.Drawn(end)
		peekedToo, drawnToo := draw.Peek(d, n), draw.Drawn(end)
		overwrite(peeked, 66)
		overwrite(drawn, 77)
		if want := between(was, 0, n); !slices.Equal(peekedToo, want) || !slices.Equal(drawnToo, want) || !slices.Equal(list, was) {
			t.Error(n, peekedToo, drawnToo, list)
		}
		overwrite(list, 88)
		if want := between(was, 0, n); !slices.Equal(peekedToo, want) || !slices.Equal(drawnToo, want) {
			t.Error(n, peekedToo, drawnToo)
		}
	}
}

// P4.4, rule 8: what is answered hangs on what is handed in now, and on no call ahead of it.
func TestNothingIsKept(t *testing.T) {
	for _, one := range lists {
		for _, other := range lists {
			draw.Take(api.Draws{List: one, Next: 1})
			draw.Peek(api.Draws{List: one}, 20)
			draw.Drawn(api.Draws{List: one, Next: 20})
			draw.Unlike(one)
			d := api.Draws{List: other, Next: 2}
			if n, w := draw.Take(d); w != nth(other, 2) || !sameSource(n, other, 3) {
				t.Error(one, other, n, w)
			}
			if l := draw.Peek(d, 3); !slices.Equal(l, between(other, 2, 5)) {
				t.Error(one, other, l)
			}
			if l := draw.Drawn(d); !slices.Equal(l, between(other, 0, 2)) {
				t.Error(one, other, l)
			}
		}
	}
}

// P1 of all layers: calls end, and don't panic, at numbers too that the promises don't speak of.
func TestEveryCallEnds(t *testing.T) {
	numbers := []int{math.MinInt, -most, -1, 0, most + 1, math.MaxInt}
	for _, list := range []row{nil, mixed} {
		for _, next := range numbers {
			d := api.Draws{List: list, Next: next}
			draw.Take(d)
			draw.Drawn(d)
			for _, n := range numbers {
				draw.Peek(d, n)
			}
		}
	}
}
