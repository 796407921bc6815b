package box_test

import (
	"math"
	"slices"
	"testing"

	"chamberlain/api"
	"chamberlain/box"
)

type row = []uint32

// words answers so many words, unlike those of another number.
func words(count, number int) row {
	var l row
	for i := range count {
		l = append(l, uint32(1000*number+i))
	}
	return l
}

// entry answers an entry that is like no other one of another number in anything.
func entry(i int) api.Sealed {
	return api.Sealed{Handle: uint32(100 + i), Key: uint32(300 + i), Label: uint32(500 + i), Plain: words(1+i%5, i)}
}

// entries answers the entries of the numbers from from on, ahead of to.
func entries(from, to int) []api.Sealed {
	var l []api.Sealed
	for i := from; i < to; i++ {
		l = append(l, entry(i))
	}
	return l
}

// boxOf answers a box of a room and so many entries.
func boxOf(room, count int) api.Box {
	return api.Box{Room: room, Sealed: entries(0, count)}
}

func sameEntry(a, b api.Sealed) bool {
	return a.Handle == b.Handle && a.Key == b.Key && a.Label == b.Label && slices.Equal(a.Plain, b.Plain)
}

func sameBox(a, b api.Box) bool {
	return a.Room == b.Room && slices.EqualFunc(a.Sealed, b.Sealed, sameEntry)
}

// copyOf answers a box of the same entries, of which nothing is shared.
func copyOf(b api.Box) api.Box {
	c := api.Box{Room: b.Room}
	for _, s := range b.Sealed {
		s.Plain = slices.Clone(s.Plain)
		c.Sealed = append(c.Sealed, s)
	}
	return c
}

// seal seals what an entry has.
func seal(b api.Box, s api.Sealed) (api.Box, api.Errno) {
	return box.Seal(b, s.Handle, s.Key, s.Label, s.Plain)
}

// sealed and opened tell the chapter's words anew; each answers in new memory.
func sealed(b api.Box, s api.Sealed) (api.Box, api.Errno) {
	c := copyOf(b)
	if len(s.Plain) > 64 {
		return c, api.ErrLong
	}
	for _, had := range b.Sealed {
		if had.Handle == s.Handle {
			return c, api.ErrReplay
		}
	}
	if len(b.Sealed) == b.Room {
		return c, api.ErrFull
	}
	c.Sealed = append(c.Sealed, s)
	return copyOf(c), api.OK
}

func opened(b api.Box, key, label, handle uint32) (row, bool) {
	for _, s := range b.Sealed {
		if s.Handle == handle && s.Key == key && s.Label == label {
			return slices.Clone(s.Plain), true
		}
	}
	return nil, false
}

// isOpened asks whether a box is opened there, and gives just these words.
func isOpened(b api.Box, key, label, handle uint32, want row) bool {
	l, ok := box.Open(b, key, label, handle)
	return ok && slices.Equal(l, want)
}

// isShut asks whether a box isn't opened there, and gives nothing.
func isShut(b api.Box, key, label, handle uint32) bool {
	l, ok := box.Open(b, key, label, handle)
	return !ok && len(l) == 0
}

// others answers words that are another one than w: each with one bit turned about, and a few more.
func others(w uint32) row {
	var l row
	for bit := range 32 {
		l = append(l, w^1<<bit)
	}
	l = append(l, w+1, w-1, ^w, -w)
	return slices.DeleteFunc(l, func(x uint32) bool { return x == w })
}

// edges are words that are easily taken for each other, or for nothing.
func edges() row {
	return row{0, 1, 2, math.MaxInt32, 1 << 31, math.MaxUint32 - 1, math.MaxUint32}
}

// P7.1: Right, written out: a Room of 0 to 64, and no more entries than that; of whatever box.
func TestRightWrittenOut(t *testing.T) {
	for _, x := range []struct {
		room, count int
		want        bool
	}{
		{0, 0, true}, {0, 1, false}, {0, 64, false},
		{1, 0, true}, {1, 1, true}, {1, 2, false}, {2, 1, true}, {2, 2, true}, {2, 3, false},
		{63, 0, true}, {63, 62, true}, {63, 63, true}, {63, 64, false},
		{64, 0, true}, {64, 1, true}, {64, 63, true}, {64, 64, true}, {64, 65, false}, {64, 300, false},
		{65, 0, false}, {65, 1, false}, {65, 64, false}, {65, 65, false}, {66, 0, false}, {128, 5, false}, {256, 0, false}, {257, 1, false}, {1 << 16, 0, false}, {math.MaxInt32, 0, false}, {math.MaxInt, 0, false}, {math.MaxInt, 64, false},
		{-1, 0, false}, {-1, 1, false}, {-2, 3, false}, {-64, 64, false}, {math.MinInt32, 0, false}, {math.MinInt, 0, false}, {math.MinInt, 1, false},
	} {
		if got := box.Right(boxOf(x.room, x.count)); got != x.want {
			t.Errorf("Right of a room of %d with %d entries: %v", x.room, x.count, got)
		}
	}
}

// P7.1: Right and Free of all rooms about those that may be, and of all numbers of entries.
func TestRightAndFree(t *testing.T) {
	for room := -3; room <= 70; room++ {
		for count := range 70 {
			b := boxOf(room, count)
			want := slices.Contains(upTo(64), room) && count <= room
			if got := box.Right(b); got != want {
				t.Errorf("Right of a room of %d with %d entries: %v", room, count, got)
			}
			if !want {
				continue
			}
			if free := box.Free(b); free+count != room {
				t.Errorf("Free of a room of %d with %d entries: %d", room, count, free)
			}
		}
	}
}

// upTo answers the numbers from 0 to n.
func upTo(n int) []int {
	var l []int
	for i := range n + 1 {
		l = append(l, i)
	}
	return l
}

// P7.1: Free, written out.
func TestFreeWrittenOut(t *testing.T) {
	for _, x := range [][3]int{{0, 0, 0}, {1, 0, 1}, {1, 1, 0}, {5, 0, 5}, {5, 2, 3}, {5, 4, 1}, {5, 5, 0}, {64, 0, 64}, {64, 1, 63}, {64, 63, 1}, {64, 64, 0}} {
		if free := box.Free(boxOf(x[0], x[1])); free != x[2] {
			t.Errorf("Free of a room of %d with %d entries: %d, want %d", x[0], x[1], free, x[2])
		}
	}
}

// P7.1: a box isn't right with two of one Handle, wherever they stand, and whatever else they have in common.
func TestTwoOfOneHandle(t *testing.T) {
	for _, count := range []int{2, 3, 5, 64} {
		for j := range count {
			for i := range j {
				for _, handle := range edges() {
					b := boxOf(64, count)
					b.Sealed[i].Handle = handle
					if !box.Right(b) {
						t.Fatal(count, i, j, handle, "isn't right with one")
					}
					b.Sealed[j].Handle = handle
					if box.Right(b) {
						t.Fatal(count, i, j, handle, "is right with two")
					}
					b.Sealed[j] = b.Sealed[i]
					if box.Right(b) {
						t.Fatal(count, i, j, handle, "is right with one twice")
					}
				}
			}
		}
	}
	if box.Right(api.Box{Room: 3, Sealed: []api.Sealed{{Handle: 4}, {Handle: 4}, {Handle: 4}}}) {
		t.Error("is right with three of one handle")
	}
}

// P7.1: handles alone tell entries apart: with like keys, labels and words a box is right; with handles that differ in one bit too.
func TestLikeEntriesOfOtherHandles(t *testing.T) {
	for _, w := range edges() {
		for _, other := range others(w) {
			b := api.Box{Room: 2, Sealed: []api.Sealed{{Handle: w, Key: 5, Label: 2, Plain: row{9}}, {Handle: other, Key: 5, Label: 2, Plain: row{9}}}}
			if !box.Right(b) || box.Free(b) != 0 {
				t.Errorf("%x and %x: not right", w, other)
			}
			// What is a handle here is a key, a label and a word there.
			b = api.Box{Room: 2, Sealed: []api.Sealed{{Handle: w, Key: other, Label: other, Plain: row{other}}, {Handle: other, Key: w, Label: w, Plain: row{w}}}}
			if !box.Right(b) || box.Free(b) != 0 {
				t.Errorf("%x and %x: not right", w, other)
			}
		}
	}
}

// P7.1: an entry has at most 64 words, whichever it is.
func TestWordsOfEntries(t *testing.T) {
	for _, count := range []int{1, 2, 5, 64} {
		for i := range count {
			for _, long := range []int{0, 1, 2, 63, 64, 65, 66, 128, 256, 257, 1 << 16} {
				b := boxOf(64, count)
				b.Sealed[i].Plain = make(row, long)
				if got := box.Right(b); got != (long <= 64) {
					t.Errorf("Right with %d words at %d of %d entries: %v", long, i, count, got)
				}
			}
		}
	}
	all := boxOf(64, 64)
	for i := range all.Sealed {
		all.Sealed[i].Plain = words(64, i)
	}
	if !box.Right(all) || box.Free(all) != 0 {
		t.Error("not right with 64 entries of 64 words")
	}
}

// P7.1: what stands in the room behind a list isn't counted; nil and empty are one.
func TestOnlyRoomAndEntriesCount(t *testing.T) {
	twice := append(entries(0, 3), entries(0, 3)...)
	long := append(entries(0, 2), api.Sealed{Handle: 9, Plain: make(row, 65)})
	for i, x := range []struct {
		b    api.Box
		want bool
		free int
	}{
		{api.Box{}, true, 0},
		{api.Box{Sealed: []api.Sealed{}}, true, 0},
		{api.Box{Room: 64}, true, 64},
		{api.Box{Room: 64, Sealed: []api.Sealed{}}, true, 64},
		{api.Box{Room: 3, Sealed: twice[:0]}, true, 3},
		{api.Box{Room: 3, Sealed: twice[:3]}, true, 0},
		{api.Box{Room: 4, Sealed: twice[:3]}, true, 1},
		{api.Box{Room: 4, Sealed: twice[:4]}, false, 0},
		{api.Box{Room: 4, Sealed: long[:2]}, true, 2},
		{api.Box{Room: 4, Sealed: long}, false, 0},
		{api.Box{Room: 1, Sealed: []api.Sealed{{}}}, true, 0},
		{api.Box{Room: 2, Sealed: []api.Sealed{{Plain: make(row, 200)[:64]}}}, true, 1},
		{api.Box{Room: 2, Sealed: []api.Sealed{{Plain: row{}}, {Handle: 1}}}, true, 0},
		{api.Box{Room: 0, Sealed: []api.Sealed{{}}}, false, 0},
		{api.Box{Room: -1}, false, 0},
		{api.Box{Room: -1, Sealed: []api.Sealed{}}, false, 0},
		{api.Box{Room: 65}, false, 0},
		{api.Box{Room: 65, Sealed: []api.Sealed{}}, false, 0},
	} {
		if got := box.Right(x.b); got != x.want {
			t.Error(i, got)
		}
		if free := box.Free(x.b); x.want && free != x.free {
			t.Error(i, free)
		}
	}
}

// P7.2: the chapter's example.
func TestExample(t *testing.T) {
	b, e := box.Seal(api.Box{Room: 1}, 1, 5, 2, row{9})
	if e != api.OK || !isOpened(b, 5, 2, 1, row{9}) || !isShut(b, 5, 3, 1) {
		t.Error(b, e)
	}
}

// P7.2: Seal, written out.
func TestSealWrittenOut(t *testing.T) {
	one := api.Sealed{Handle: 1, Key: 5, Label: 2, Plain: row{9, 8}}
	two := api.Sealed{Handle: math.MaxUint32, Key: 0, Label: math.MaxUint32, Plain: row{0, math.MaxUint32}}
	bare := api.Sealed{}
	most := api.Sealed{Handle: 3, Key: 4, Label: 5, Plain: words(64, 6)}
	long := api.Sealed{Handle: 3, Key: 4, Label: 5, Plain: words(65, 6)}
	for i, x := range []struct {
		b    api.Box
		s    api.Sealed
		want []api.Sealed
		e    api.Errno
	}{
		{api.Box{Room: 1}, one, []api.Sealed{one}, api.OK},
		{api.Box{Room: 1, Sealed: []api.Sealed{}}, one, []api.Sealed{one}, api.OK},
		{api.Box{Room: 2, Sealed: []api.Sealed{one}}, two, []api.Sealed{one, two}, api.OK},
		{api.Box{Room: 2, Sealed: []api.Sealed{two}}, one, []api.Sealed{two, one}, api.OK},
		{api.Box{Room: 64, Sealed: []api.Sealed{one, two}}, bare, []api.Sealed{one, two, bare}, api.OK},
		{api.Box{Room: 64, Sealed: []api.Sealed{one, bare}}, most, []api.Sealed{one, bare, most}, api.OK},
		{api.Box{Room: 64}, api.Sealed{Plain: row{}}, []api.Sealed{bare}, api.OK},
		{api.Box{Room: 1}, long, nil, api.ErrLong},
		{api.Box{Room: 3, Sealed: []api.Sealed{one, two}}, long, []api.Sealed{one, two}, api.ErrLong},
		{api.Box{Room: 3, Sealed: []api.Sealed{one, two}}, one, []api.Sealed{one, two}, api.ErrReplay},
		{api.Box{Room: 3, Sealed: []api.Sealed{one, two}}, two, []api.Sealed{one, two}, api.ErrReplay},
		{api.Box{Room: 3, Sealed: []api.Sealed{one, two}}, api.Sealed{Handle: 1}, []api.Sealed{one, two}, api.ErrReplay},
		{api.Box{Room: 3, Sealed: []api.Sealed{bare}}, api.Sealed{Key: 1, Label: 1, Plain: row{1}}, []api.Sealed{bare}, api.ErrReplay},
		{api.Box{}, one, nil, api.ErrFull},
		{api.Box{Sealed: []api.Sealed{}}, bare, nil, api.ErrFull},
		{api.Box{Room: 1, Sealed: []api.Sealed{one}}, two, []api.Sealed{one}, api.ErrFull},
		{api.Box{Room: 2, Sealed: []api.Sealed{one, two}}, bare, []api.Sealed{one, two}, api.ErrFull},
		{api.Box{Room: 2, Sealed: []api.Sealed{one, two}}, most, []api.Sealed{one, two}, api.ErrFull},
	} {
		if b, e := seal(x.b, x.s); e != x.e || !sameBox(b, api.Box{Room: x.b.Room, Sealed: x.want}) {
			t.Error(i, b, e)
		}
	}
}

// P7.2: of several errors that apply, the one named first is told: too many words, a handle that is had, no room.
func TestSealTellsTheFirstError(t *testing.T) {
	for _, count := range []int{0, 1, 2, 63, 64} {
		for _, room := range []int{count, count + 1} {
			if room > 64 {
				continue
			}
			for at := -1; at < count; at++ {
				for _, long := range []int{0, 64, 65, 66, 200} {
					// Ahead of the first place stands a handle that no entry has.
					handle := entry(at).Handle
					want := api.OK
					switch {
					case long > 64:
						want = api.ErrLong
					case at >= 0:
						want = api.ErrReplay
					case room == count:
						want = api.ErrFull
					}
					b, e := box.Seal(boxOf(room, count), handle, 7, 8, make(row, long))
					if e != want || want != api.OK && !sameBox(b, boxOf(room, count)) {
						t.Errorf("Seal of %d words with the handle %d into a room of %d with %d entries: %v, %d, want %d", long, handle, room, count, b, e, want)
					}
				}
			}
		}
	}
}

// P7.2: words of each number up to 64 are sealed, and opened again; of more they aren't.
func TestWordsOfEachNumber(t *testing.T) {
	for long := range 200 {
		b, e := box.Seal(boxOf(9, 2), 1, 2, 3, words(long, 4))
		if long > 64 {
			if e != api.ErrLong || !sameBox(b, boxOf(9, 2)) || !isShut(b, 2, 3, 1) {
				t.Error(long, b, e)
			}
			continue
		}
		if e != api.OK || !isOpened(b, 2, 3, 1, words(long, 4)) || !box.Right(b) {
			t.Error(long, b, e)
		}
	}
	for _, long := range []int{256, 257, 256 + 64, 1 << 16, 1<<16 + 64, 1 << 20} {
		if b, e := box.Seal(boxOf(9, 2), 1, 2, 3, make(row, long)); e != api.ErrLong || !sameBox(b, boxOf(9, 2)) {
			t.Error(long, b, e)
		}
	}
	// Only the length counts, not the room behind it.
	if b, e := box.Seal(boxOf(9, 2), 1, 2, 3, words(200, 4)[:64]); e != api.OK || !isOpened(b, 2, 3, 1, words(64, 4)) {
		t.Error(b, e)
	}
}

// P7.2: entries without words are sealed and opened as others are, be the list of words nil or empty.
func TestNoWords(t *testing.T) {
	for _, none := range []row{nil, {}, words(5, 5)[:0]} {
		b, e := box.Seal(boxOf(9, 2), 1, 2, 3, none)
		if e != api.OK || len(b.Sealed) != 3 || !isOpened(b, 2, 3, 1, nil) || !isShut(b, 2, 4, 1) {
			t.Error(b, e)
		}
		if b, e := box.Seal(b, 1, 2, 3, none); e != api.ErrReplay || len(b.Sealed) != 3 {
			t.Error(b, e)
		}
		if !isOpened(api.Box{Room: 1, Sealed: []api.Sealed{{Handle: 1, Key: 2, Label: 3, Plain: none}}}, 2, 3, 1, nil) {
			t.Error("an entry without words isn't opened")
		}
	}
}

// P7.2: Open, written out; where no entries are, nothing is opened.
func TestOpenWrittenOut(t *testing.T) {
	b := api.Box{Room: 4, Sealed: []api.Sealed{
		{Handle: 1, Key: 2, Label: 3, Plain: row{10, 11}},
		{Handle: 2, Key: 3, Label: 1, Plain: row{20}},
		{Handle: 0, Key: 0, Label: 0, Plain: row{0}},
		{Handle: 3, Key: 2, Label: 3},
	}}
	for i, x := range []struct {
		key, label, handle uint32
		want               row
		ok                 bool
	}{
		{2, 3, 1, row{10, 11}, true}, {3, 1, 2, row{20}, true}, {0, 0, 0, row{0}, true}, {2, 3, 3, nil, true},
		{3, 2, 1, nil, false}, {1, 2, 3, nil, false}, {1, 3, 2, nil, false}, {2, 1, 3, nil, false},
		{2, 3, 2, nil, false}, {3, 1, 1, nil, false}, {2, 1, 1, nil, false}, {3, 3, 1, nil, false}, {3, 3, 2, nil, false},
		{2, 3, 0, nil, false}, {0, 0, 1, nil, false}, {0, 0, 3, nil, false}, {0, 3, 1, nil, false}, {2, 0, 1, nil, false},
		{2, 3, 4, nil, false}, {10, 11, 1, nil, false}, {2, 3, 10, nil, false},
	} {
		if l, ok := box.Open(b, x.key, x.label, x.handle); ok != x.ok || !slices.Equal(l, x.want) {
			t.Error(i, l, ok)
		}
	}
	for _, b := range []api.Box{{}, {Room: 3}, {Room: 3, Sealed: []api.Sealed{}}, {Room: 3, Sealed: entries(0, 3)[:0]}} {
		if !isShut(b, 0, 0, 0) || !isShut(b, entry(0).Key, entry(0).Label, entry(0).Handle) {
			t.Error(b)
		}
	}
	// What stands in the room behind the list isn't opened, and its handle isn't had.
	b = api.Box{Room: 9, Sealed: entries(0, 5)[:2]}
	if s := entry(3); !isShut(b, s.Key, s.Label, s.Handle) {
		t.Error("opened behind the list's length")
	}
	if b, e := seal(b, entry(3)); e != api.OK || !sameBox(b, api.Box{Room: 9, Sealed: append(entries(0, 2), entry(3))}) {
		t.Error(b, e)
	}
}

// P7.2: of a handle that an entry has nothing more is sealed, at whatever place the entry stands; of one that differs in a bit it is.
func TestHandles(t *testing.T) {
	for _, count := range []int{1, 2, 5, 64} {
		for i := range count {
			for _, handle := range edges() {
				b := boxOf(64, count)
				b.Sealed[i].Handle = handle
				if m, e := box.Seal(b, handle, 7, 8, row{9}); e != api.ErrReplay || !sameBox(m, b) {
					t.Fatal(count, i, handle, m, e)
				}
				if s := b.Sealed[i]; !isOpened(b, s.Key, s.Label, handle, s.Plain) {
					t.Fatal(count, i, handle, "isn't opened")
				}
			}
		}
	}
	for _, handle := range edges() {
		for _, other := range others(handle) {
			b := api.Box{Room: 2, Sealed: []api.Sealed{{Handle: handle, Key: 5, Label: 2, Plain: row{9}}}}
			b, e := box.Seal(b, other, 5, 2, row{10})
			if e != api.OK || !isOpened(b, 5, 2, handle, row{9}) || !isOpened(b, 5, 2, other, row{10}) {
				t.Errorf("%x and %x: %v, %d", handle, other, b, e)
			}
		}
	}
}

// P7.2, P7.3: with a handle, a key or a label that differs in a bit, nothing is opened; handles, keys and labels are all words from 0 to the greatest.
func TestOpenOfOtherWords(t *testing.T) {
	for _, handle := range edges() {
		for _, key := range edges() {
			for _, label := range edges() {
				b, e := box.Seal(api.Box{Room: 3}, handle, key, label, row{9, 0})
				if e != api.OK || !sameBox(b, api.Box{Room: 3, Sealed: []api.Sealed{{Handle: handle, Key: key, Label: label, Plain: row{9, 0}}}}) {
					t.Fatal(handle, key, label, b, e)
				}
				if !isOpened(b, key, label, handle, row{9, 0}) {
					t.Fatal(handle, key, label, "isn't opened")
				}
				for _, other := range others(handle) {
					if !isShut(b, key, label, other) {
						t.Fatal(handle, key, label, "opened with the handle", other)
					}
				}
				for _, other := range others(key) {
					if !isShut(b, other, label, handle) {
						t.Fatal(handle, key, label, "opened with the key", other)
					}
				}
				for _, other := range others(label) {
					if !isShut(b, key, other, handle) {
						t.Fatal(handle, key, label, "opened with the label", other)
					}
				}
			}
		}
	}
}

// checkCalls holds each call at a box against the chapter's words, for handles, keys and labels below a number.
func checkCalls(t *testing.T, b api.Box, below uint32) {
	t.Helper()
	was := copyOf(b)
	for handle := range below {
		for key := range below {
			for label := range below {
				l, ok := box.Open(b, key, label, handle)
				if want, wok := opened(was, key, label, handle); ok != wok || !slices.Equal(l, want) {
					t.Fatalf("Open(%v, %d, %d, %d) = %v, %v", was, key, label, handle, l, ok)
				}
			}
		}
		for _, long := range []int{0, 2, 64, 65} {
			s := api.Sealed{Handle: handle, Key: 70, Label: 71, Plain: words(long, 9)}
			m, e := seal(b, s)
			if want, we := sealed(was, s); e != we || !sameBox(m, want) {
				t.Fatalf("Seal(%v, %v) = %v, %d", was, s, m, e)
			}
		}
	}
	if !sameBox(b, was) {
		t.Fatalf("changed: %v, was %v", b, was)
	}
}

// P7.2, P7.3: all ways in which up to three entries of few handles, keys and labels are sealed one after the other.
func TestAllShortWays(t *testing.T) {
	const below = 3
	var walk func(b api.Box, steps int)
	walk = func(b api.Box, steps int) {
		checkCalls(t, b, below)
		if steps == 0 {
			return
		}
		for handle := range uint32(below) {
			for key := range uint32(below) {
				for label := range uint32(below) {
					if m, e := box.Seal(b, handle, key, label, words(steps, int(10*handle+key))); e == api.OK {
						walk(m, steps-1)
					}
				}
			}
		}
	}
	for room := range 3 {
		walk(api.Box{Room: room}, 2)
	}
	walk(api.Box{Room: 3, Sealed: []api.Sealed{{Handle: 1, Key: 0, Label: 2}}}, 2)
}

// P7.2, P7.3: many steps, by which a box gets full; each held against the chapter's words, with what was sealed, and with other words.
func TestManySteps(t *testing.T) {
	for _, room := range []int{0, 1, 2, 7, 63, 64} {
		var b, want api.Box
		state, full, open, shut := uint32(1), 0, 0, 0
		next := func(below int) int {
			state = state*1664525 + 1013904223
			return int(state>>8) % below
		}
		for step := range 6000 {
			// From time to time all begins anew.
			if step%600 == 0 {
				b, want = api.Box{Room: room}, api.Box{Room: room}
			}
			handle, key, label := uint32(next(2*room+2)), uint32(next(3)), uint32(next(3))
			if next(3) == 0 {
				s := api.Sealed{Handle: handle, Key: key, Label: label, Plain: words(next(68), step)}
				var e, we api.Errno
				b, e = seal(b, s)
				want, we = sealed(want, s)
				if e != we || !sameBox(b, want) || box.Free(b) != room-len(want.Sealed) || !box.Right(b) {
					t.Fatalf("room %d, step %d: Seal(%v) = %v, %d; want %v, %d", room, step, s, b, e, want, we)
				}
				if e == api.ErrFull {
					full++
				}
				continue
			}
			l, ok := box.Open(b, key, label, handle)
			wl, wok := opened(want, key, label, handle)
			if ok != wok || !slices.Equal(l, wl) {
				t.Fatalf("room %d, step %d: Open(%d, %d, %d) = %v, %v; want %v, %v", room, step, key, label, handle, l, ok, wl, wok)
			}
			if ok {
				open++
			} else {
				shut++
			}
		}
		if full == 0 || shut == 0 || open == 0 && room > 0 {
			t.Error("room", room, "was never full, or never opened, or always")
		}
	}
}

// orders answers a few orders of the numbers below n.
func orders(n int) [][]int {
	there := upTo(n - 1)
	back := slices.Clone(there)
	slices.Reverse(back)
	// 67 has no divisor in common with a number of up to 64, so that each number comes just once.
	var apart []int
	for i := range n {
		apart = append(apart, (i*67+5)%n)
	}
	return [][]int{there, back, apart}
}

// P7.2: a box is filled up to its room, in whatever order, and no further; then each entry is opened, in whatever order.
func TestFilledUpToItsRoom(t *testing.T) {
	for room := range api.MaxRoom + 1 {
		for _, order := range orders(room) {
			b, want := api.Box{Room: room}, api.Box{Room: room}
			for i, number := range order {
				var e api.Errno
				b, e = seal(b, entry(number))
				want.Sealed = append(want.Sealed, entry(number))
				if e != api.OK || box.Free(b) != room-i-1 || !sameBox(b, want) || !box.Right(b) {
					t.Fatal(room, i, b, e)
				}
			}
			if m, e := seal(b, entry(room)); e != api.ErrFull || !sameBox(m, want) {
				t.Fatal(room, m, e)
			}
			for _, order := range orders(room) {
				for _, number := range order {
					if s := entry(number); !isOpened(b, s.Key, s.Label, s.Handle, s.Plain) {
						t.Fatal(room, number, "isn't opened")
					}
				}
			}
			if s := entry(room); !isShut(b, s.Key, s.Label, s.Handle) {
				t.Fatal(room, "what was refused is opened")
			}
		}
	}
}

// P7.3: of a full box, just what was sealed is opened, of all handles, keys and labels that were sealed with something.
func TestOnlyWhatWasSealedIsOpened(t *testing.T) {
	b := api.Box{Room: 64}
	// Handles, keys and labels are the same words, in other orders.
	keyOf := func(i int) uint32 { return uint32(i * 5 % 64) }
	labelOf := func(i int) uint32 { return uint32((i*11 + 3) % 64) }
	for i := range 64 {
		var e api.Errno
		if b, e = box.Seal(b, uint32(i), keyOf(i), labelOf(i), words(i+1, i)); e != api.OK {
			t.Fatal(i, e)
		}
	}
	count := 0
	for handle := range 66 {
		for key := range uint32(66) {
			for label := range uint32(66) {
				if handle < 64 && key == keyOf(handle) && label == labelOf(handle) {
					count++
					if !isOpened(b, key, label, uint32(handle), words(handle+1, handle)) {
						t.Fatal(handle, key, label, "isn't opened")
					}
				} else if !isShut(b, key, label, uint32(handle)) {
					t.Fatal(handle, key, label, "is opened")
				}
			}
		}
	}
	if count != 64 {
		t.Error(count, "were opened")
	}
}

// P7.3: one key and one label seal many entries, and each handle opens its own; opening takes nothing away.
func TestOneKeyAndOneLabel(t *testing.T) {
	b := api.Box{Room: 64}
	for i := range 64 {
		var e api.Errno
		if b, e = box.Seal(b, uint32(i), 5, 2, row{uint32(i), 9}); e != api.OK {
			t.Fatal(i, e)
		}
	}
	for range 3 {
		for i := range uint32(64) {
			if !isOpened(b, 5, 2, i, row{i, 9}) || !isShut(b, 5, 3, i) || !isShut(b, 6, 2, i) || !isShut(b, 2, 5, i) {
				t.Error(i)
			}
		}
		if !isShut(b, 5, 2, 64) {
			t.Error("opened with a handle that no entry has")
		}
	}
}

// P7.3: what was refused isn't opened, and what was sealed ahead of it is opened as ever.
func TestWhatWasRefusedIsntOpened(t *testing.T) {
	b, _ := box.Seal(api.Box{Room: 2}, 1, 5, 2, row{9})
	b, e := box.Seal(b, 1, 6, 3, row{10})
	if e != api.ErrReplay || !isShut(b, 6, 3, 1) || !isShut(b, 6, 2, 1) || !isShut(b, 5, 3, 1) || !isOpened(b, 5, 2, 1, row{9}) {
		t.Error(b, e)
	}
	b, e = box.Seal(b, 1, 5, 2, row{10})
	if e != api.ErrReplay || !isOpened(b, 5, 2, 1, row{9}) {
		t.Error(b, e)
	}
	b, e = box.Seal(b, 2, 6, 3, make(row, 65))
	if e != api.ErrLong || !isShut(b, 6, 3, 2) {
		t.Error(b, e)
	}
	b, e = box.Seal(b, 2, 7, 4, row{11})
	if e != api.OK || !isOpened(b, 7, 4, 2, row{11}) || !isShut(b, 6, 3, 2) {
		t.Error(b, e)
	}
	b, e = box.Seal(b, 3, 8, 5, row{12})
	if e != api.ErrFull || !isShut(b, 8, 5, 3) || !isOpened(b, 5, 2, 1, row{9}) || !isOpened(b, 7, 4, 2, row{11}) {
		t.Error(b, e)
	}
}

// A nest is a box whose list, and whose entries' words, stand in the midst of greater ones.
type nest struct {
	b    api.Box
	list []api.Sealed
	all  row
}

// nested answers a box of so many entries, with others around them; what stands around is like none of them.
func nested(room, count int) nest {
	x := nest{all: words(400, 1)}
	for i := range count + 5 {
		x.list = append(x.list, api.Sealed{Handle: uint32(60 + i), Key: uint32(160 + i), Label: uint32(260 + i), Plain: x.all[5*i+1 : 5*i+1+i%4]})
	}
	x.b = api.Box{Room: room, Sealed: x.list[1 : 1+count]}
	return x
}

// isAs asks whether everything in and around a nest is as in another one.
func (x nest) isAs(y nest) bool {
	return slices.EqualFunc(x.list, y.list, sameEntry) && slices.Equal(x.all, y.all)
}

// overwrite fills a box's list, and the room behind its length, with what stands nowhere else; what the entries' words are it leaves, as they may be shared.
func overwrite(b api.Box) {
	for i := range b.Sealed[:cap(b.Sealed)] {
		b.Sealed[:cap(b.Sealed)][i] = api.Sealed{Handle: 55, Key: 56, Label: 57, Plain: row{58}}
	}
}

// fill fills words, and the room behind their length.
func fill(l row) {
	for i := range l[:cap(l)] {
		l[:cap(l)][i] = 77
	}
}

// P7.4: no call changes a box, an entry or its words, nor what stands around them and in the room behind their length; nor does a write into what it answers.
func TestHandedInStays(t *testing.T) {
	for _, count := range []int{0, 1, 2, 3, 5, 20} {
		was := nested(count+1, count)
		x := nested(count+1, count)
		b, e := box.Seal(x.b, 1, 2, 3, row{4})
		if e != api.OK || !x.isAs(was) {
			t.Error("Seal changes", x, e)
		}
		overwrite(b)
		// The words of the entry that was sealed are new, those of others may be shared.
		b, _ = box.Seal(x.b, 1, 2, 3, row{4})
		fill(b.Sealed[count].Plain)
		if !x.isAs(was) {
			t.Error("what Seal answers is shared", x)
		}
		for _, s := range slices.Clone(x.b.Sealed) {
			l, ok := box.Open(x.b, s.Key, s.Label, s.Handle)
			fill(l)
			if !ok || !x.isAs(was) {
				t.Error("what Open answers is shared, or Open changes", x, ok)
			}
			box.Open(x.b, s.Key, s.Label, s.Handle+100)
			box.Open(x.b, s.Key+1, s.Label, s.Handle)
			box.Seal(x.b, s.Handle, 2, 3, row{4})
		}
		box.Right(x.b)
		box.Free(x.b)
		box.Seal(x.b, 1, 2, 3, make(row, 65))
		x.b.Room = count
		box.Seal(x.b, 1, 2, 3, row{4})
		if !x.isAs(was) {
			t.Error("a call changes", x)
		}
	}
}

// P7.4: the words that Seal is handed, and what stands around them, stay, and aren't kept: a later change of them changes no entry.
func TestSealedWordsArentKept(t *testing.T) {
	for _, count := range []int{0, 1, 3} {
		for long := range 65 {
			whole := words(80, 5)
			part := whole[3 : 3+long]
			b, e := box.Seal(boxOf(9, count), 1, 2, 3, part)
			if e != api.OK || !slices.Equal(whole, words(80, 5)) {
				t.Fatal(count, long, b, e, whole)
			}
			// The room behind the words isn't theirs, nor the entry's.
			_ = append(b.Sealed[count].Plain, 1)
			if !slices.Equal(whole, words(80, 5)) {
				t.Fatal(count, long, "the room behind is shared", whole)
			}
			fill(whole)
			if !isOpened(b, 2, 3, 1, words(80, 5)[3:3+long]) || !sameBox(b, api.Box{Room: 9, Sealed: append(entries(0, count), api.Sealed{Handle: 1, Key: 2, Label: 3, Plain: words(80, 5)[3 : 3+long]})}) {
				t.Fatal(count, long, "a later change is seen", b)
			}
		}
	}
	// One row may be sealed twice, with a change between.
	l := row{1, 2}
	b, _ := box.Seal(api.Box{Room: 2}, 1, 2, 3, l)
	l[0] = 9
	b, _ = box.Seal(b, 2, 2, 3, l)
	l[1] = 9
	if !isOpened(b, 2, 3, 1, row{1, 2}) || !isOpened(b, 2, 3, 2, row{9, 2}) {
		t.Error(b)
	}
	// What was refused isn't changed either.
	for _, b := range []api.Box{{Room: 1}, {Room: 1, Sealed: []api.Sealed{{Handle: 1}}}, {}} {
		whole := words(80, 5)
		box.Seal(b, 1, 2, 3, whole[2:67])
		box.Seal(b, 1, 2, 3, whole[2:3])
		if !slices.Equal(whole, words(80, 5)) {
			t.Error(b, whole)
		}
	}
}

// P7.4: what Open answers is new memory: a change of it changes no entry, and no other answer.
func TestOpenedWordsAreNew(t *testing.T) {
	for long := range 65 {
		b, _ := box.Seal(boxOf(9, 3), 1, 2, 3, words(long, 5))
		one, _ := box.Open(b, 2, 3, 1)
		two, _ := box.Open(b, 2, 3, 1)
		fill(one)
		if !slices.Equal(two, words(long, 5)) || !isOpened(b, 2, 3, 1, words(long, 5)) {
			t.Fatal(long, two, b)
		}
		for i := range b.Sealed {
			fill(b.Sealed[i].Plain)
		}
		if !slices.Equal(two, words(long, 5)) {
			t.Fatal(long, "a write into the box is seen", two)
		}
	}
}

// P7.4: the list of the box that is answered is new memory: what is written into the box that was handed in, or into its room, isn't seen there, nor what is written into another answer.
func TestAnsweredIsNewMemory(t *testing.T) {
	for _, count := range []int{0, 1, 2, 3, 5, 20} {
		x := nested(64, count)
		plain := row{7, 8}
		first, _ := box.Seal(x.b, 1, 2, 3, plain)
		want := copyOf(first)
		one, _ := box.Seal(x.b, 1, 2, 3, plain)
		two, _ := box.Seal(x.b, 1, 2, 3, plain)
		fill(one.Sealed[count].Plain)
		overwrite(one)
		if !sameBox(two, want) {
			t.Error(count, "a write into one answer is seen in another one", two)
		}
		overwrite(api.Box{Sealed: x.list})
		fill(plain)
		if !sameBox(two, want) {
			t.Error(count, "a write into the box that was handed in is seen", two)
		}
	}
}

// P7.4: boxes that are made of one box share no room behind their lists: each goes on by itself.
func TestAnswersGoOnApart(t *testing.T) {
	b := api.Box{Room: 64}
	// Sealed one by one, so that the list has whatever room behind it that it gets by growing.
	for i := range 40 {
		was := copyOf(b)
		one, _ := seal(b, entry(100))
		two, _ := seal(b, entry(101))
		three, _ := seal(one, entry(102))
		four, _ := seal(one, entry(103))
		if !sameBox(one, api.Box{Room: 64, Sealed: append(entries(0, i), entry(100))}) || !sameBox(two, api.Box{Room: 64, Sealed: append(entries(0, i), entry(101))}) {
			t.Fatal(i, one, two)
		}
		if !sameBox(three, api.Box{Room: 64, Sealed: append(entries(0, i), entry(100), entry(102))}) || !sameBox(four, api.Box{Room: 64, Sealed: append(entries(0, i), entry(100), entry(103))}) {
			t.Fatal(i, three, four)
		}
		if !sameBox(b, was) {
			t.Fatal(i, b, was)
		}
		b, _ = seal(b, entry(i))
	}
}

// Rule 8: what is answered hangs on what is handed in now, and on no call ahead of it.
func TestNothingIsKept(t *testing.T) {
	for _, one := range []api.Box{{}, boxOf(3, 3), boxOf(64, 5)} {
		for _, other := range []api.Box{{Room: 4}, {Room: 2, Sealed: []api.Sealed{{Handle: 1, Key: 2, Label: 1, Plain: row{3}}}}, {Room: 1, Sealed: []api.Sealed{{Handle: 2}}}} {
			box.Seal(one, 0, 1, 2, row{3})
			box.Seal(one, 1, 1, 2, nil)
			box.Open(one, entry(0).Key, entry(0).Label, entry(0).Handle)
			box.Free(one)
			box.Right(one)
			checkCalls(t, other, 4)
		}
	}
}

// P1 of all layers: calls end, and don't panic, at boxes too of which nothing is promised.
func TestEveryCallEnds(t *testing.T) {
	twice := []api.Sealed{{Handle: 1, Plain: row{1}}, {Handle: 1, Plain: make(row, 300)}}
	for _, room := range []int{math.MinInt, -65, -1, 0, 1, 2, 64, 65, math.MaxInt} {
		for _, l := range [][]api.Sealed{nil, {}, entries(0, 1), entries(0, 3), entries(0, 70), twice} {
			b := api.Box{Room: room, Sealed: l}
			box.Right(b)
			box.Free(b)
			for _, w := range append(edges(), 100, 300, 500) {
				for _, long := range []int{0, 1, 64, 65, 1000} {
					box.Seal(b, w, w, w, make(row, long))
				}
				box.Open(b, w, w, w)
				box.Open(b, 0, 0, w)
				box.Open(b, 300, 500, w)
			}
		}
	}
}
