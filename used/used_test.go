package used_test

import (
	"math"
	"slices"
	"testing"

	"chamberlain/api"
	"chamberlain/used"
)

type row = []uint32

// edges are words that are easily taken for each other, or for nothing.
func edges() row {
	return row{0, 1, 2, math.MaxInt32, 1 << 31, math.MaxUint32 - 1, math.MaxUint32}
}

// others answers words that are another one than w: each with one bit turned about, and a few more.
func others(w uint32) row {
	var l row
	for bit := range 32 {
		l = append(l, w^1<<bit)
	}
	l = append(l, w+1, w-1, ^w, -w)
	return slices.DeleteFunc(l, func(x uint32) bool { return x == w })
}

// words answers so many words, none of them like another.
func words(count int) row {
	var l row
	for i := range count {
		// By an odd number no two go round to one, and they come in no order.
		l = append(l, uint32(i+1)*2654435761)
	}
	return l
}

// allRows answers every row of at most n words that are ahead of kinds.
func allRows(n int, kinds uint32) []row {
	all := []row{nil}
	for last := all; n > 0; n-- {
		var longer []row
		for _, l := range last {
			for w := range kinds {
				longer = append(longer, append(slices.Clone(l), w))
			}
		}
		all = append(all, longer...)
		last = longer
	}
	return all
}

// rooms are rooms far below 0, about 0, about a number, and far above it.
func rooms(about int) []int {
	l := []int{math.MinInt, math.MinInt32, -65, math.MaxInt32, math.MaxInt}
	for by := -2; by <= 2; by++ {
		l = append(l, by, about+by)
	}
	return l
}

// count answers how often a word stands in a row.
func count(l row, w uint32) int {
	n := 0
	for _, x := range l {
		if x == w {
			n++
		}
	}
	return n
}

// right, may and noted tell the chapter's words anew; noted answers in new memory.
func right(l row, room int) bool {
	for _, w := range l {
		if count(l, w) != 1 {
			return false
		}
	}
	return len(l) <= room
}

func may(l row, room int, w uint32) api.Errno {
	if count(l, w) > 0 {
		return api.ErrReplay
	}
	if len(l) == room {
		return api.ErrFull
	}
	return api.OK
}

func noted(l row, room int, w uint32) (row, api.Errno) {
	e := may(l, room, w)
	if e == api.OK {
		return append(slices.Clone(l), w), e
	}
	return slices.Clone(l), e
}

// check holds May and Note of a right row and a word against the chapter's words.
func check(t *testing.T, l row, room int, w uint32) row {
	t.Helper()
	was := slices.Clone(l)
	want, we := noted(was, room, w)
	if e := used.May(l, room, w); e != we {
		t.Fatalf("May(%v, %d, %d) = %d, want %d", was, room, w, e, we)
	}
	n, e := used.Note(l, room, w)
	if e != we || !slices.Equal(n, want) {
		t.Fatalf("Note(%v, %d, %d) = %v, %d, want %v, %d", was, room, w, n, e, want, we)
	}
	if !slices.Equal(l, was) {
		t.Fatalf("changed: %v, was %v", l, was)
	}
	return n
}

// P8.1: Right, written out: no more words than the room, and none twice.
func TestRightWrittenOut(t *testing.T) {
	for _, x := range []struct {
		l    row
		room int
		want bool
	}{
		{nil, 0, true}, {row{}, 0, true}, {nil, 1, true}, {row{}, 1, true}, {nil, 64, true}, {nil, math.MaxInt, true}, {row{}, math.MaxInt, true},
		{nil, -1, false}, {row{}, -1, false}, {nil, -64, false}, {nil, math.MinInt32, false}, {nil, math.MinInt, false}, {row{}, math.MinInt, false},
		{row{0}, 0, false}, {row{0}, 1, true}, {row{0}, 2, true}, {row{0}, -1, false}, {row{0}, math.MinInt, false}, {row{0}, math.MaxInt, true},
		{row{math.MaxUint32}, 0, false}, {row{math.MaxUint32}, 1, true}, {row{7}, 1, true}, {row{7}, 0, false},
		{row{5, 6}, 0, false}, {row{5, 6}, 1, false}, {row{5, 6}, 2, true}, {row{5, 6}, 3, true}, {row{6, 5}, 2, true}, {row{5, 6}, -2, false},
		{row{0, math.MaxUint32}, 2, true}, {row{math.MaxUint32, 0}, 2, true}, {row{1, 1 << 31, 1 << 16, 1<<16 + 1, 1<<31 + 1}, 5, true},
		{row{5, 5}, 2, false}, {row{5, 5}, 1, false}, {row{5, 5}, 9, false}, {row{0, 0}, 2, false}, {row{0, 0}, 9, false}, {row{math.MaxUint32, math.MaxUint32}, 2, false},
		{row{5, 5, 6}, 3, false}, {row{6, 5, 5}, 3, false}, {row{5, 6, 5}, 3, false}, {row{5, 5, 5}, 3, false}, {row{5, 6, 6}, 64, false},
		{row{1, 2, 1}, 9, false}, {row{1, 2, 3, 4, 1}, 5, false}, {row{1, 2, 3, 2, 5}, 5, false}, {row{1, 2, 3, 4, 4}, 5, false}, {row{1, 1, 3, 4, 5}, 5, false}, {row{1, 2, 1, 2}, 4, false},
		{row{1, 2, 3, 4, 5}, 5, true}, {row{5, 4, 3, 2, 1}, 5, true}, {row{3, 5, 1, 4, 2}, 4, false}, {row{3, 5, 1, 4, 2}, 6, true},
	} {
		if got := used.Right(x.l, x.room); got != x.want {
			t.Errorf("Right(%v, %d) = %v", x.l, x.room, got)
		}
	}
}

// P8.1: Right of all short rows of few words, with rooms about their length and far from it.
func TestRightOfAllShortRows(t *testing.T) {
	for _, l := range allRows(6, 4) {
		for _, room := range rooms(len(l)) {
			if got := used.Right(l, room); got != right(l, room) {
				t.Fatalf("Right(%v, %d) = %v", l, room, got)
			}
		}
	}
}

// P8.1: Right of rows without a word twice, of all lengths up to some beyond 64, with all rooms about those.
func TestRightOfLongRows(t *testing.T) {
	for n := range 70 {
		l := words(n)
		for room := -3; room <= 72; room++ {
			if got := used.Right(l, room); got != (n <= room) {
				t.Errorf("Right of %d words, room %d: %v", n, room, got)
			}
		}
	}
	for _, n := range []int{100, 255, 256, 257, 1000, 3000} {
		for room := n - 2; room <= n+2; room++ {
			if got := used.Right(words(n), room); got != (n <= room) {
				t.Errorf("Right of %d words, room %d: %v", n, room, got)
			}
		}
	}
}

// P8.1: a row isn't right with a word twice, at whatever two places, whatever word it is, and however great the room.
func TestTwiceAtAnyTwoPlaces(t *testing.T) {
	for _, n := range []int{2, 3, 4, 7, 64, 65} {
		for j := range n {
			for i := range j {
				for _, w := range edges() {
					l := words(n)
					l[i] = w
					for _, room := range []int{n, n + 1, math.MaxInt} {
						l[j] = ^w
						if !used.Right(l, room) {
							t.Fatal(n, i, j, w, room, "isn't right with one")
						}
						l[j] = w
						if used.Right(l, room) {
							t.Fatal(n, i, j, w, room, "is right with two")
						}
					}
				}
			}
		}
	}
}

// P8.1: far apart too, and next to each other at both ends of a long row.
func TestTwiceFarApart(t *testing.T) {
	const n = 3000
	for _, x := range [][2]int{{0, n - 1}, {0, 1}, {n - 2, n - 1}, {1, n - 2}, {n/2 - 1, n / 2}, {0, n / 2}, {n / 2, n - 1}, {256, 512}} {
		l := words(n)
		l[x[1]] = l[x[0]]
		if used.Right(l, n) || used.Right(l, n+1) {
			t.Error(x, "is right")
		}
	}
}

// P8.1: words that differ in one bit are two, for each call.
func TestWordsThatAreNearlyAlike(t *testing.T) {
	for _, w := range edges() {
		for _, other := range others(w) {
			if !used.Right(row{w, other}, 2) || !used.Right(row{other, w}, 2) {
				t.Errorf("%x and %x: not right", w, other)
			}
			if e := used.May(row{w}, 2, other); e != api.OK {
				t.Errorf("May of %x behind %x: %d", other, w, e)
			}
			if e := used.May(row{w}, 1, other); e != api.ErrFull {
				t.Errorf("May of %x behind %x, in a full row: %d", other, w, e)
			}
			if l, e := used.Note(row{w}, 2, other); e != api.OK || !slices.Equal(l, row{w, other}) {
				t.Errorf("Note of %x behind %x: %v, %d", other, w, l, e)
			}
		}
		if e := used.May(row{w}, 2, w); e != api.ErrReplay {
			t.Errorf("May of %x behind itself: %d", w, e)
		}
	}
}

// P8.1: the chapter's example.
func TestExample(t *testing.T) {
	l, e := used.Note(nil, 1, 5)
	if e != api.OK || !slices.Equal(l, row{5}) {
		t.Error(l, e)
	}
	if e := used.May(l, 1, 5); e != api.ErrReplay {
		t.Error(e)
	}
	if e := used.May(l, 1, 6); e != api.ErrFull {
		t.Error(e)
	}
}

// P8.1: May and Note, written out; of a word that is in a row that is full, ErrReplay is told.
func TestMayAndNoteWrittenOut(t *testing.T) {
	for _, x := range []struct {
		l    row
		room int
		w    uint32
		want row
		e    api.Errno
	}{
		{nil, 0, 1, nil, api.ErrFull}, {row{}, 0, 1, nil, api.ErrFull}, {nil, 0, 0, nil, api.ErrFull}, {row{}, 0, 0, nil, api.ErrFull}, {nil, 0, math.MaxUint32, nil, api.ErrFull},
		{nil, 1, 1, row{1}, api.OK}, {row{}, 1, 1, row{1}, api.OK}, {nil, 1, 0, row{0}, api.OK}, {row{}, 1, 0, row{0}, api.OK}, {nil, 1, math.MaxUint32, row{math.MaxUint32}, api.OK},
		{nil, 64, 7, row{7}, api.OK}, {nil, math.MaxInt, 7, row{7}, api.OK},
		{row{5}, 1, 5, row{5}, api.ErrReplay}, {row{5}, 1, 6, row{5}, api.ErrFull}, {row{5}, 1, 0, row{5}, api.ErrFull},
		{row{5}, 2, 5, row{5}, api.ErrReplay}, {row{5}, 2, 6, row{5, 6}, api.OK}, {row{5}, 2, 4, row{5, 4}, api.OK}, {row{5}, 2, 0, row{5, 0}, api.OK},
		{row{5}, 3, 5, row{5}, api.ErrReplay}, {row{5}, 3, 6, row{5, 6}, api.OK}, {row{5}, math.MaxInt, 5, row{5}, api.ErrReplay}, {row{5}, math.MaxInt, 6, row{5, 6}, api.OK},
		{row{0}, 1, 0, row{0}, api.ErrReplay}, {row{0}, 1, math.MaxUint32, row{0}, api.ErrFull}, {row{0}, 2, 0, row{0}, api.ErrReplay}, {row{0}, 2, math.MaxUint32, row{0, math.MaxUint32}, api.OK},
		{row{math.MaxUint32}, 1, math.MaxUint32, row{math.MaxUint32}, api.ErrReplay}, {row{math.MaxUint32}, 1, 0, row{math.MaxUint32}, api.ErrFull}, {row{math.MaxUint32}, 2, 0, row{math.MaxUint32, 0}, api.OK},
		{row{5, 0, 7}, 3, 5, row{5, 0, 7}, api.ErrReplay}, {row{5, 0, 7}, 3, 0, row{5, 0, 7}, api.ErrReplay}, {row{5, 0, 7}, 3, 7, row{5, 0, 7}, api.ErrReplay}, {row{5, 0, 7}, 3, 8, row{5, 0, 7}, api.ErrFull},
		{row{5, 0, 7}, 4, 5, row{5, 0, 7}, api.ErrReplay}, {row{5, 0, 7}, 4, 0, row{5, 0, 7}, api.ErrReplay}, {row{5, 0, 7}, 4, 7, row{5, 0, 7}, api.ErrReplay}, {row{5, 0, 7}, 4, 8, row{5, 0, 7, 8}, api.OK}, {row{5, 0, 7}, 4, 6, row{5, 0, 7, 6}, api.OK},
		{row{5, 0, 7}, 5, 1, row{5, 0, 7, 1}, api.OK}, {row{5, 0, 7}, 9, 0, row{5, 0, 7}, api.ErrReplay},
	} {
		if e := used.May(x.l, x.room, x.w); e != x.e {
			t.Errorf("May(%v, %d, %d) = %d, want %d", x.l, x.room, x.w, e, x.e)
		}
		if l, e := used.Note(x.l, x.room, x.w); e != x.e || !slices.Equal(l, x.want) {
			t.Errorf("Note(%v, %d, %d) = %v, %d, want %v, %d", x.l, x.room, x.w, l, e, x.want, x.e)
		}
	}
}

// P8.1: May and Note of all short right rows, of each word that is in them and of such as aren't, with each room that they are right for.
func TestAllShortRows(t *testing.T) {
	for _, l := range allRows(5, 6) {
		for _, room := range rooms(len(l)) {
			if !right(l, room) {
				continue
			}
			for w := range uint32(8) {
				check(t, l, room, w)
			}
			check(t, l, room, math.MaxUint32)
		}
	}
}

// P8.1, P8.2: all ways in which up to five words of four are noted one behind the other.
func TestAllShortWays(t *testing.T) {
	var walk func(l row, room, steps int)
	walk = func(l row, room, steps int) {
		if !used.Right(l, room) {
			t.Fatal(l, room, "isn't right")
		}
		for w := range uint32(4) {
			if n := check(t, l, room, w); steps > 1 {
				walk(n, room, steps-1)
			}
		}
	}
	for room := range 6 {
		walk(nil, room, 5)
		walk(row{}, room, 2)
	}
}

// P8.1, P8.2: many steps, by which a row gets full; each held against the chapter's words.
func TestManySteps(t *testing.T) {
	for _, room := range []int{0, 1, 2, 7, 63, 64, 65, 300} {
		var l row
		state, full, again := uint32(1), 0, 0
		for range 3000 {
			state = state*1664525 + 1013904223
			w := state >> 8 % uint32(2*room+3)
			switch e := used.May(l, room, w); {
			case e == api.ErrFull:
				full++
			case e == api.ErrReplay:
				again++
			}
			if l = check(t, l, room, w); !used.Right(l, room) {
				t.Fatal(room, l, "isn't right")
			}
		}
		if full == 0 || again == 0 && room > 0 || len(l) != room {
			t.Error("room", room, full, again, len(l))
		}
	}
}

// P8.1: a row is filled up to its room, and no further; a word that is in it is told so, full or not.
func TestFilledUpToItsRoom(t *testing.T) {
	for room := range 70 {
		var l row
		all := words(room + 1)
		for i, w := range all[:room] {
			if l = check(t, l, room, w); !slices.Equal(l, all[:i+1]) || !used.Right(l, room) || used.Right(l, i) {
				t.Fatal(room, i, l)
			}
			for _, had := range all[:i+1] {
				if n, e := used.Note(l, room, had); e != api.ErrReplay || !slices.Equal(n, all[:i+1]) {
					t.Fatal(room, i, n, e)
				}
			}
		}
		if n, e := used.Note(l, room, all[room]); e != api.ErrFull || !slices.Equal(n, all[:room]) {
			t.Fatal(room, n, e)
		}
		// With more room the same row goes on.
		if n, e := used.Note(l, room+1, all[room]); e != api.OK || !slices.Equal(n, all) {
			t.Fatal(room, n, e)
		}
	}
}

// P8.2: a word is noted once: whatever is noted behind it, it stands in the row one time, and is never noted again.
func TestNotedOnce(t *testing.T) {
	for _, w := range edges() {
		for ahead := range 5 {
			for behind := range 5 {
				const room = 10
				all := words(ahead + behind)
				l := row(nil)
				for _, x := range all[:ahead] {
					l, _ = used.Note(l, room, x)
				}
				l, e := used.Note(l, room, w)
				if e != api.OK || len(l) != ahead+1 || l[ahead] != w {
					t.Fatal(w, ahead, l, e)
				}
				for _, x := range all[ahead:] {
					for range 2 {
						if l, e = used.Note(l, room, w); e != api.ErrReplay || count(l, w) != 1 {
							t.Fatal(w, l, e)
						}
					}
					l, _ = used.Note(l, room, x)
				}
				if l, e = used.Note(l, room, w); e != api.ErrReplay || !slices.Equal(l, slices.Concat(all[:ahead], row{w}, all[ahead:])) {
					t.Fatal(w, ahead, behind, l, e)
				}
			}
		}
	}
}

// P8.2: what was refused for want of room isn't noted: it is refused so again, and noted where there is room.
func TestRefusedIsntNoted(t *testing.T) {
	l := words(4)
	for range 3 {
		n, e := used.Note(l, 4, 9)
		if e != api.ErrFull || !slices.Equal(n, words(4)) {
			t.Fatal(n, e)
		}
		l = n
	}
	if l, e := used.Note(l, 5, 9); e != api.OK || !slices.Equal(l, append(words(4), 9)) {
		t.Error(l, e)
	}
}

// P8.1: what stands in the room behind a row's length isn't its words.
func TestRoomBehindIsNoWords(t *testing.T) {
	whole := row{1, 2, 3, 1, 4}
	l := whole[:2]
	if !used.Right(l, 2) || !used.Right(whole[:3], 3) || used.Right(whole[:4], 9) || !used.Right(whole[1:], 4) {
		t.Error("Right looks behind the length, or ahead of the row")
	}
	if used.May(l, 3, 3) != api.OK || used.May(l, 3, 4) != api.OK || used.May(whole[1:3], 3, 1) != api.OK {
		t.Error("May looks behind the length, or ahead of the row")
	}
	if e := used.May(l, 2, 3); e != api.ErrFull {
		t.Error(e)
	}
	if n, e := used.Note(l, 3, 3); e != api.OK || !slices.Equal(n, row{1, 2, 3}) {
		t.Error(n, e)
	}
	if !used.Right(whole[:0], 0) || used.May(whole[:0], 0, 1) != api.ErrFull || used.May(whole[:0], 1, 1) != api.OK {
		t.Error("a row without words has those behind it")
	}
}

// fill fills a row, and the room behind its length.
func fill(l row) {
	for i := range l[:cap(l)] {
		l[:cap(l)][i] = 77
	}
}

// P8.3: no call changes a row, nor what stands around it and in the room behind its length; nor does a write into what was noted.
func TestHandedInStays(t *testing.T) {
	for n := range 20 {
		was := words(n + 6)
		whole := slices.Clone(was)
		l := whole[2 : 2+n]
		for _, room := range []int{n, n + 1, n + 9} {
			used.Right(l, room)
			for _, w := range append(slices.Clone(whole), 5) {
				used.May(l, room, w)
				if m, e := used.Note(l, room, w); e == api.OK {
					fill(m)
				}
				if !slices.Equal(whole, was) {
					t.Fatal(n, room, w, whole)
				}
			}
		}
		used.Right(whole, n)
		used.Right(append(whole, whole...), 3*n+12)
		if !slices.Equal(whole, was) {
			t.Fatal(n, whole)
		}
	}
}

// P8.3: what Note answers is new memory: a write into the row that was handed in, or into another answer, isn't seen there.
func TestNotedIsNewMemory(t *testing.T) {
	for n := range 20 {
		for _, behind := range []int{0, 1, 8} {
			whole := words(n + behind)
			l := whole[:n]
			one, _ := used.Note(l, n+1, 5)
			two, e := used.Note(l, n+1, 5)
			fill(one)
			if want := append(words(n), 5); e != api.OK || !slices.Equal(two, want) {
				t.Fatal(n, behind, "a write into one answer is seen in another one", two, e)
			}
			fill(whole)
			if want := append(words(n), 5); !slices.Equal(two, want) {
				t.Fatal(n, behind, "a write into the row that was handed in is seen", two)
			}
		}
	}
}

// P8.3: a row that is refused comes back with its words, and those alone; later notes in it write into none of its memory.
func TestRefusedRowStays(t *testing.T) {
	whole := words(8)
	for _, x := range []struct {
		room int
		w    uint32
		e    api.Errno
	}{{5, whole[0], api.ErrReplay}, {5, whole[4], api.ErrReplay}, {9, whole[2], api.ErrReplay}, {5, whole[5], api.ErrFull}, {5, 1, api.ErrFull}} {
		l, e := used.Note(whole[:5], x.room, x.w)
		if e != x.e || !slices.Equal(l, words(8)[:5]) {
			t.Error(x, l, e)
		}
		if l, e = used.Note(l, 9, 2); e != api.OK || !slices.Equal(l, append(words(5), 2)) || !slices.Equal(whole, words(8)) {
			t.Error(x, l, e, whole)
		}
	}
	for _, l := range []row{nil, {}} {
		if n, e := used.Note(l, 0, 0); e != api.ErrFull || len(n) != 0 {
			t.Error(n, e)
		}
	}
}

// P8.3: rows that are made of one row share no room behind them: each goes on by itself.
func TestAnswersGoOnApart(t *testing.T) {
	var l row
	all := words(40)
	// Noted one by one, so that the row has whatever room behind it that it gets by growing.
	for i, w := range all {
		one, _ := used.Note(l, 64, 1)
		two, _ := used.Note(l, 64, 2)
		three, _ := used.Note(one, 64, 3)
		four, _ := used.Note(one, 64, 4)
		five, _ := used.Note(l, i+1, 5)
		if !slices.Equal(one, append(words(i), 1)) || !slices.Equal(two, append(words(i), 2)) || !slices.Equal(five, append(words(i), 5)) {
			t.Fatal(i, one, two, five)
		}
		if !slices.Equal(three, append(words(i), 1, 3)) || !slices.Equal(four, append(words(i), 1, 4)) || !slices.Equal(l, all[:i]) {
			t.Fatal(i, three, four, l)
		}
		l, _ = used.Note(l, 64, w)
	}
}

// Rule 8: what is answered hangs on what is handed in now, and on no call ahead of it.
func TestNothingIsKept(t *testing.T) {
	for _, one := range []row{nil, {1, 2, 3}, words(64)} {
		for _, other := range []row{nil, {3}, {4, 1}} {
			used.Note(one, 64, 4)
			used.Note(one, len(one), 5)
			used.May(one, 70, 6)
			used.Right(one, 3)
			used.Right(append(slices.Clone(one), 7, 7), 70)
			for w := range uint32(9) {
				check(t, other, len(other), w)
				check(t, other, 5, w)
			}
		}
	}
}

// P1 of all layers: calls end, and don't panic, at rows and rooms too of which nothing is promised.
func TestEveryCallEnds(t *testing.T) {
	for _, l := range []row{nil, {}, {0}, {5, 5}, {1, 2, 1}, make(row, 1000), words(70), words(3000)} {
		for _, room := range rooms(len(l)) {
			used.Right(l, room)
			for _, w := range append(edges(), 5) {
				used.May(l, room, w)
				used.Note(l, room, w)
			}
		}
	}
}
