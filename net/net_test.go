package net_test

import (
	"math"
	"slices"
	"testing"

	"chamberlain/api"
	"chamberlain/net"
)

type row = []uint32

// gram answers a frame that is like no other one of another number.
func gram(i int) api.Gram {
	return api.Gram{To: uint32(i), Words: row{uint32(100 + i), uint32(i), 9}}
}

// grams answers the frames of the numbers from from on, ahead of to.
func grams(from, to int) []api.Gram {
	var l []api.Gram
	for i := from; i < to; i++ {
		l = append(l, gram(i))
	}
	return l
}

// wordsOf answers the words of frames, as Seen has them.
func wordsOf(l []api.Gram) [][]uint32 {
	var seen [][]uint32
	for _, g := range l {
		seen = append(seen, g.Words)
	}
	return seen
}

// netOf answers a net of a room and so many frames, ahead of which two others were seen.
func netOf(room, count int) api.Net {
	return api.Net{Room: room, Grams: grams(0, count), Seen: append(wordsOf(grams(0, count)), row{7}, nil)}
}

func sameGram(a, b api.Gram) bool {
	return a.To == b.To && slices.Equal(a.Words, b.Words)
}

func sameSeen(a, b [][]uint32) bool {
	return slices.EqualFunc(a, b, func(x, y []uint32) bool { return slices.Equal(x, y) })
}

func sameNet(a, b api.Net) bool {
	return a.Room == b.Room && slices.EqualFunc(a.Grams, b.Grams, sameGram) && sameSeen(a.Seen, b.Seen)
}

func isZero(g api.Gram) bool {
	return g.To == 0 && len(g.Words) == 0
}

// copyOf answers a net of the same frames, of which nothing is shared.
func copyOf(n api.Net) api.Net {
	c := api.Net{Room: n.Room}
	for _, g := range n.Grams {
		c.Grams = append(c.Grams, api.Gram{To: g.To, Words: slices.Clone(g.Words)})
	}
	for _, l := range n.Seen {
		c.Seen = append(c.Seen, slices.Clone(l))
	}
	return c
}

// sent, taken and doubled tell the chapter's words anew, frame by frame; each answers in new memory.
func sent(n api.Net, g api.Gram) (api.Net, api.Errno) {
	c := copyOf(n)
	if len(n.Grams) == n.Room {
		return c, api.ErrFull
	}
	c.Grams = append(c.Grams, g)
	c.Seen = append(c.Seen, g.Words)
	return c, api.OK
}

func taken(n api.Net, i int) (api.Net, api.Gram, api.Errno) {
	c := copyOf(n)
	if i < 0 || i >= len(n.Grams) {
		return c, api.Gram{}, api.ErrArg
	}
	var one api.Gram
	c.Grams = nil
	for at, g := range n.Grams {
		if at == i {
			one = g
		} else {
			c.Grams = append(c.Grams, g)
		}
	}
	return c, one, api.OK
}

func doubled(n api.Net, i int) (api.Net, api.Errno) {
	c := copyOf(n)
	if i < 0 || i >= len(n.Grams) {
		return c, api.ErrArg
	}
	if len(n.Grams) == n.Room {
		return c, api.ErrFull
	}
	c.Grams = append(c.Grams, n.Grams[i])
	return c, api.OK
}

// noPlaces answers places at which a list of so many has nothing.
func noPlaces(count int) []int {
	return []int{-1, -2, -count - 1, math.MinInt32, math.MinInt, count, count + 1, count + 64, count + 256, count + 1<<16, math.MaxInt32, math.MaxInt - 1, math.MaxInt}
}

// P6.1: Right, written out: a Room of 0 to 64, and no more frames than that; of whatever net.
func TestRightWrittenOut(t *testing.T) {
	for _, x := range []struct {
		room, count int
		want        bool
	}{
		{0, 0, true}, {0, 1, false}, {0, 64, false},
		{1, 0, true}, {1, 1, true}, {1, 2, false}, {2, 1, true}, {2, 2, true}, {2, 3, false},
		{63, 0, true}, {63, 63, true}, {63, 64, false},
		{64, 0, true}, {64, 1, true}, {64, 63, true}, {64, 64, true}, {64, 65, false}, {64, 300, false},
		{65, 0, false}, {65, 1, false}, {65, 64, false}, {65, 65, false}, {66, 0, false}, {128, 5, false}, {256, 0, false}, {257, 1, false}, {1 << 16, 0, false}, {math.MaxInt32, 0, false}, {math.MaxInt, 0, false}, {math.MaxInt, 64, false},
		{-1, 0, false}, {-1, 1, false}, {-2, 3, false}, {-64, 64, false}, {math.MinInt32, 0, false}, {math.MinInt, 0, false}, {math.MinInt, 1, false},
	} {
		if got := net.Right(api.Net{Room: x.room, Grams: grams(0, x.count)}); got != x.want {
			t.Errorf("Right of a room of %d with %d frames: %v", x.room, x.count, got)
		}
	}
}

// P6.1: Right and Free of all rooms about those that may be, and of all numbers of frames.
func TestRightAndFree(t *testing.T) {
	for room := -3; room <= 70; room++ {
		for count := range 70 {
			n := api.Net{Room: room, Grams: make([]api.Gram, count)}
			want := slices.Contains(upTo(64), room) && count <= room
			if got := net.Right(n); got != want {
				t.Errorf("Right of a room of %d with %d frames: %v", room, count, got)
			}
			if !want {
				continue
			}
			if free := net.Free(n); free+count != room {
				t.Errorf("Free of a room of %d with %d frames: %d", room, count, free)
			}
		}
	}
}

// upTo answers the numbers from 0 to n.
func upTo(n int) []int {
	var l []int
	for i := range n + 1 {
		l = append(l, i)
	}
	return l
}

// P6.1: Free, written out.
func TestFreeWrittenOut(t *testing.T) {
	for _, x := range [][3]int{{0, 0, 0}, {1, 0, 1}, {1, 1, 0}, {5, 0, 5}, {5, 2, 3}, {5, 4, 1}, {5, 5, 0}, {64, 0, 64}, {64, 1, 63}, {64, 63, 1}, {64, 64, 0}} {
		if free := net.Free(api.Net{Room: x[0], Grams: grams(0, x[1])}); free != x[2] {
			t.Errorf("Free of a room of %d with %d frames: %d, want %d", x[0], x[1], free, x[2])
		}
	}
}

// P6.1: neither what was seen, nor what the frames are, nor the room behind the list counts; nil and empty are one.
func TestOnlyRoomAndFramesCount(t *testing.T) {
	seen := make([][]uint32, 200)
	behind := grams(0, 70)
	for i, x := range []struct {
		n    api.Net
		want bool
		free int
	}{
		{api.Net{}, true, 0},
		{api.Net{Grams: []api.Gram{}, Seen: [][]uint32{}}, true, 0},
		{api.Net{Seen: seen}, true, 0},
		{api.Net{Room: 3, Grams: []api.Gram{}}, true, 3},
		{api.Net{Room: 3, Grams: behind[:0]}, true, 3},
		{api.Net{Room: 3, Grams: behind[:3], Seen: seen}, true, 0},
		{api.Net{Room: 3, Grams: behind[:2], Seen: seen}, true, 1},
		{api.Net{Room: 64, Grams: behind[:64]}, true, 0},
		{api.Net{Room: 2, Grams: []api.Gram{{}, {}}}, true, 0},
		{api.Net{Room: 2, Grams: []api.Gram{{To: math.MaxUint32, Words: make(row, 100)}}}, true, 1},
		{api.Net{Room: 0, Grams: []api.Gram{{}}}, false, 0},
		{api.Net{Room: -1, Grams: []api.Gram{}}, false, 0},
		{api.Net{Room: 65, Seen: seen}, false, 0},
	} {
		if got := net.Right(x.n); got != x.want {
			t.Error(i, got)
		}
		if free := net.Free(x.n); x.want && free != x.free {
			t.Error(i, free)
		}
	}
}

// P6.2: the chapter's example.
func TestExample(t *testing.T) {
	n, e := net.Send(api.Net{Room: 2}, api.Gram{To: 5, Words: row{1, 2}})
	n, f := net.Send(n, api.Gram{To: 6, Words: row{3}})
	n, g, h := net.Take(n, 0)
	if e != api.OK || f != api.OK || h != api.OK || !sameGram(g, api.Gram{To: 5, Words: row{1, 2}}) {
		t.Error(e, f, h, g)
	}
	if !sameNet(n, api.Net{Room: 2, Grams: []api.Gram{{To: 6, Words: row{3}}}, Seen: [][]uint32{{1, 2}, {3}}}) {
		t.Error(n)
	}
}

// P6.2: Send, written out: of no frames as nil and as empty lists, of frames without words, to whomever, and where more were seen than are on their way.
func TestSendWrittenOut(t *testing.T) {
	one, two, bare := api.Gram{To: 1, Words: row{3, 4}}, api.Gram{To: math.MaxUint32, Words: row{0, math.MaxUint32}}, api.Gram{}
	long := api.Gram{To: 2, Words: make(row, 80)}
	for i, x := range []struct {
		n    api.Net
		g    api.Gram
		want api.Net
		e    api.Errno
	}{
		{api.Net{Room: 1}, one, api.Net{Room: 1, Grams: []api.Gram{one}, Seen: [][]uint32{{3, 4}}}, api.OK},
		{api.Net{Room: 1, Grams: []api.Gram{}, Seen: [][]uint32{}}, one, api.Net{Room: 1, Grams: []api.Gram{one}, Seen: [][]uint32{{3, 4}}}, api.OK},
		{api.Net{Room: 2, Grams: []api.Gram{one}, Seen: [][]uint32{{3, 4}}}, two, api.Net{Room: 2, Grams: []api.Gram{one, two}, Seen: [][]uint32{{3, 4}, {0, math.MaxUint32}}}, api.OK},
		{api.Net{Room: 2, Grams: []api.Gram{one}, Seen: [][]uint32{{3, 4}}}, one, api.Net{Room: 2, Grams: []api.Gram{one, one}, Seen: [][]uint32{{3, 4}, {3, 4}}}, api.OK},
		{api.Net{Room: 2, Grams: []api.Gram{two}}, bare, api.Net{Room: 2, Grams: []api.Gram{two, {}}, Seen: [][]uint32{nil}}, api.OK},
		{api.Net{Room: 9, Seen: [][]uint32{{8}, nil, {8}}}, bare, api.Net{Room: 9, Grams: []api.Gram{{}}, Seen: [][]uint32{{8}, {}, {8}, {}}}, api.OK},
		{api.Net{Room: 9, Seen: [][]uint32{{8}}}, long, api.Net{Room: 9, Grams: []api.Gram{long}, Seen: [][]uint32{{8}, make(row, 80)}}, api.OK},
		{api.Net{}, one, api.Net{}, api.ErrFull},
		{api.Net{Grams: []api.Gram{}, Seen: [][]uint32{{8}}}, bare, api.Net{Seen: [][]uint32{{8}}}, api.ErrFull},
		{api.Net{Room: 1, Grams: []api.Gram{one}}, two, api.Net{Room: 1, Grams: []api.Gram{one}}, api.ErrFull},
		{api.Net{Room: 2, Grams: []api.Gram{one, one}, Seen: [][]uint32{{8}}}, one, api.Net{Room: 2, Grams: []api.Gram{one, one}, Seen: [][]uint32{{8}}}, api.ErrFull},
	} {
		if n, e := net.Send(x.n, x.g); !sameNet(n, x.want) || e != x.e {
			t.Error(i, n, e)
		}
	}
}

// P6.2: Take and Double, written out, place by place.
func TestTakeAndDoubleWrittenOut(t *testing.T) {
	a, b, c := api.Gram{To: 1, Words: row{5}}, api.Gram{To: 2}, api.Gram{To: 1, Words: row{6, 7}}
	n := api.Net{Room: 4, Grams: []api.Gram{a, b, c}, Seen: [][]uint32{{9}, {5}, nil, {6, 7}}}
	for i, x := range []struct {
		one             api.Gram
		rest, withTwice []api.Gram
	}{
		{a, []api.Gram{b, c}, []api.Gram{a, b, c, a}},
		{b, []api.Gram{a, c}, []api.Gram{a, b, c, b}},
		{c, []api.Gram{a, b}, []api.Gram{a, b, c, c}},
	} {
		if m, g, e := net.Take(n, i); e != api.OK || !sameGram(g, x.one) || !sameNet(m, api.Net{Room: 4, Grams: x.rest, Seen: n.Seen}) {
			t.Error(i, m, g, e)
		}
		if m, e := net.Double(n, i); e != api.OK || !sameNet(m, api.Net{Room: 4, Grams: x.withTwice, Seen: n.Seen}) {
			t.Error(i, m, e)
		}
	}
	if m, g, e := net.Take(api.Net{Room: 1, Grams: []api.Gram{a}}, 0); e != api.OK || !sameGram(g, a) || !sameNet(m, api.Net{Room: 1}) {
		t.Error(m, g, e)
	}
	if m, e := net.Double(api.Net{Room: 2, Grams: []api.Gram{b}}, 0); e != api.OK || !sameNet(m, api.Net{Room: 2, Grams: []api.Gram{b, b}}) {
		t.Error(m, e)
	}
}

// P6.2: at no such place nothing is taken and nothing doubled: the net is as it was, and the frame a zero one.
func TestNoSuchPlace(t *testing.T) {
	for _, x := range [][2]int{{0, 0}, {1, 0}, {1, 1}, {2, 1}, {3, 3}, {64, 0}, {64, 63}, {64, 64}} {
		for _, i := range noPlaces(x[1]) {
			n := netOf(x[0], x[1])
			if m, g, e := net.Take(n, i); e != api.ErrArg || !isZero(g) || !sameNet(m, netOf(x[0], x[1])) {
				t.Errorf("Take(%d of %d frames): %v, %v, %d", i, x[1], m, g, e)
			}
			if m, e := net.Double(n, i); e != api.ErrArg || !sameNet(m, netOf(x[0], x[1])) {
				t.Errorf("Double(%d of %d frames): %v, %d", i, x[1], m, e)
			}
		}
	}
	// What stands in the room behind the list is at no place.
	n := api.Net{Room: 9, Grams: grams(0, 5)[:2]}
	for i := 2; i < 5; i++ {
		if m, g, e := net.Take(n, i); e != api.ErrArg || !isZero(g) || len(m.Grams) != 2 {
			t.Error(i, m, g, e)
		}
		if m, e := net.Double(n, i); e != api.ErrArg || len(m.Grams) != 2 {
			t.Error(i, m, e)
		}
	}
	for _, n := range []api.Net{{Room: 2}, {Room: 2, Grams: []api.Gram{}}, {}} {
		if m, g, e := net.Take(n, 0); e != api.ErrArg || !isZero(g) || !sameNet(m, n) {
			t.Error(m, g, e)
		}
		if m, e := net.Double(n, 0); e != api.ErrArg || !sameNet(m, n) {
			t.Error(m, e)
		}
	}
}

// P6.2: where no such place is, and no room either, ErrArg is told, as it is named first; ErrFull at a place of a full net.
func TestDoubleTellsTheFirstError(t *testing.T) {
	for _, room := range []int{0, 1, 2, 5, 64} {
		full := netOf(room, room)
		for _, i := range noPlaces(room) {
			if m, e := net.Double(full, i); e != api.ErrArg || !sameNet(m, netOf(room, room)) {
				t.Errorf("Double(%d of %d frames): %v, %d", i, room, m, e)
			}
		}
		for i := range room {
			if m, e := net.Double(full, i); e != api.ErrFull || !sameNet(m, netOf(room, room)) {
				t.Errorf("Double(%d of %d frames): %v, %d", i, room, m, e)
			}
		}
	}
}

// checkCalls holds each call at a net against the chapter's words, at all its places and those beside them.
func checkCalls(t *testing.T, n api.Net, g api.Gram) {
	t.Helper()
	was := copyOf(n)
	m, e := net.Send(n, g)
	if want, we := sent(n, g); e != we || !sameNet(m, want) {
		t.Fatalf("Send(%v, %v) = %v, %d", n, g, m, e)
	}
	for i := -1; i <= len(n.Grams)+1; i++ {
		m, one, e := net.Take(n, i)
		if want, wg, we := taken(n, i); e != we || !sameGram(one, wg) || !sameNet(m, want) {
			t.Fatalf("Take(%v, %d) = %v, %v, %d", n, i, m, one, e)
		}
		m, e = net.Double(n, i)
		if want, we := doubled(n, i); e != we || !sameNet(m, want) {
			t.Fatalf("Double(%v, %d) = %v, %d", n, i, m, e)
		}
	}
	if !net.Right(n) || net.Free(n) != n.Room-len(was.Grams) || !sameNet(n, was) {
		t.Fatal(n, was, net.Free(n))
	}
}

// P6.2: at every room and every number of frames, of one with room and of a full one, each call does what the chapter's words say.
func TestAllRoomsAndPlaces(t *testing.T) {
	for room := range api.MaxRoom + 1 {
		for _, count := range []int{0, 1, 2, room / 2, room - 1, room} {
			if count >= 0 && count <= room {
				checkCalls(t, netOf(room, count), gram(500))
			}
		}
	}
}

// P6.2: frames are sent, taken and doubled in whatever order: all orders of few steps, from an empty net on.
func TestAllOrdersOfFewSteps(t *testing.T) {
	var walk func(n api.Net, steps, number int)
	walk = func(n api.Net, steps, number int) {
		checkCalls(t, n, gram(number))
		if steps == 0 {
			return
		}
		if m, e := net.Send(n, gram(number)); e == api.OK {
			walk(m, steps-1, number+1)
		}
		for i := range n.Grams {
			m, _, _ := net.Take(n, i)
			walk(m, steps-1, number)
			if m, e := net.Double(n, i); e == api.OK {
				walk(m, steps-1, number)
			}
		}
	}
	for room := range 4 {
		walk(api.Net{Room: room}, 6, 0)
	}
}

// P6.2: many steps, by which a net gets full, and empty again, and full; each held against the chapter's words.
func TestManySteps(t *testing.T) {
	for _, room := range []int{0, 1, 2, 7, 63, 64} {
		var n, want api.Net
		n.Room, want.Room = room, room
		state, full, empty := uint32(1), 0, 0
		next := func(below int) int {
			state = state*1664525 + 1013904223
			return int(state>>8) % below
		}
		for step := range 3000 {
			var e, we api.Errno
			var g, wg api.Gram
			i := next(len(want.Grams)+2) - 1
			// For a while more is sent than taken, then the other way round.
			switch filling, choice := step/300%2 == 0, next(8); {
			case choice == 0:
				n, e = net.Double(n, i)
				want, we = doubled(want, i)
			case choice == 1 || filling && choice != 2:
				n, e = net.Send(n, gram(step))
				want, we = sent(want, gram(step))
			default:
				n, g, e = net.Take(n, i)
				want, wg, we = taken(want, i)
			}
			if e != we || !sameGram(g, wg) || !sameNet(n, want) || net.Free(n) != room-len(want.Grams) || !net.Right(n) {
				t.Fatalf("room %d, step %d: %v, %v, %d; want %v, %v, %d", room, step, n, g, e, want, wg, we)
			}
			if net.Free(n) == 0 {
				full++
			}
			if len(n.Grams) == 0 {
				empty++
			}
		}
		if full == 0 || empty == 0 {
			t.Error("room", room, "was never full, or never empty")
		}
	}
}

// P6.2: a net is filled up to its room, and no further; what is taken makes room for one.
func TestFilledUpToItsRoom(t *testing.T) {
	for room := range api.MaxRoom + 1 {
		n := api.Net{Room: room}
		for i := range room {
			var e api.Errno
			if n, e = net.Send(n, gram(i)); e != api.OK || net.Free(n) != room-i-1 {
				t.Fatal(room, i, e)
			}
		}
		if m, e := net.Send(n, gram(room)); e != api.ErrFull || !sameNet(m, api.Net{Room: room, Grams: grams(0, room), Seen: wordsOf(grams(0, room))}) {
			t.Fatal(room, m, e)
		}
		if room == 0 {
			continue
		}
		m, _, _ := net.Take(n, room-1)
		if again, e := net.Send(m, gram(700)); e != api.OK || net.Free(again) != 0 || len(again.Seen) != room+1 || !slices.Equal(again.Seen[room], gram(700).Words) {
			t.Fatal(room, again, e)
		}
		if again, e := net.Double(m, 0); room > 1 && (e != api.OK || net.Free(again) != 0 || !sameSeen(again.Seen, n.Seen)) {
			t.Fatal(room, again, e)
		}
	}
}

// P6.2: Seen grows by each frame that is sent, at its end, and by nothing else, whatever becomes of the frames.
func TestSeenStays(t *testing.T) {
	n := api.Net{Room: 3, Seen: [][]uint32{{1}, nil}}
	want := [][]uint32{{1}, nil}
	for i := range 100 {
		var e api.Errno
		if n, e = net.Send(n, gram(i)); e != api.OK {
			t.Fatal(i, e)
		}
		want = append(want, gram(i).Words)
		for range 2 {
			if n, e = net.Double(n, 0); e != api.OK || !sameSeen(n.Seen, want) {
				t.Fatal(i, n, e)
			}
		}
		if n, e = net.Send(n, gram(800)); e != api.ErrFull || !sameSeen(n.Seen, want) {
			t.Fatal(i, n, e)
		}
		if n, e = net.Double(n, 0); e != api.ErrFull || !sameSeen(n.Seen, want) {
			t.Fatal(i, n, e)
		}
		for k := range 3 {
			if n, _, e = net.Take(n, 2-k); e != api.OK || !sameSeen(n.Seen, want) {
				t.Fatal(i, n, e)
			}
		}
		if n, _, e = net.Take(n, 0); e != api.ErrArg || !sameSeen(n.Seen, want) {
			t.Fatal(i, n, e)
		}
	}
}

// A nest is a net whose lists, and whose frames' words, stand in the midst of greater ones.
type nest struct {
	n     api.Net
	grams []api.Gram
	seen  [][]uint32
	words row
}

// nested answers a net of so many frames, with others around them, and so many seen; what stands around is like none of them.
func nested(room, count, seen int) nest {
	x := nest{words: make(row, 400)}
	for i := range x.words {
		x.words[i] = uint32(1000 + i)
	}
	for i := range count + 5 {
		x.grams = append(x.grams, api.Gram{To: uint32(60 + i), Words: x.words[3*i : 3*i+2]})
	}
	for i := range seen + 5 {
		x.seen = append(x.seen, x.words[2*i:2*i+1])
	}
	x.n = api.Net{Room: room, Grams: x.grams[1 : 1+count], Seen: x.seen[1 : 1+seen]}
	return x
}

// isAs asks whether everything in and around a nest is as in another one.
func (x nest) isAs(y nest) bool {
	return slices.EqualFunc(x.grams, y.grams, sameGram) && sameSeen(x.seen, y.seen) && slices.Equal(x.words, y.words)
}

// overwrite fills a net's lists, and the room behind their length, with what stands nowhere else.
func overwrite(n api.Net) {
	for i := range n.Grams[:cap(n.Grams)] {
		n.Grams[:cap(n.Grams)][i] = api.Gram{To: 55, Words: row{55}}
	}
	for i := range n.Seen[:cap(n.Seen)] {
		n.Seen[:cap(n.Seen)][i] = row{66}
	}
}

// calls answers the calls that make a net out of another one of so many frames, at each place.
func calls(count int) []func(n api.Net) api.Net {
	l := []func(n api.Net) api.Net{
		func(n api.Net) api.Net { m, _ := net.Send(n, gram(3)); return m },
		func(n api.Net) api.Net { m, _ := net.Send(n, api.Gram{}); return m },
	}
	for i := range count {
		l = append(l,
			func(n api.Net) api.Net { m, _, _ := net.Take(n, i); return m },
			func(n api.Net) api.Net { m, _ := net.Double(n, i); return m },
		)
	}
	return l
}

// P6.3: no call changes a net, a frame or its words, nor what stands around them and in the room behind their length; nor does a write into what it answers.
func TestHandedInStays(t *testing.T) {
	for _, count := range []int{0, 1, 2, 3, 5} {
		for _, seen := range []int{0, 1, 4} {
			was := nested(9, count, seen)
			for i, call := range calls(count) {
				x := nested(9, count, seen)
				m := call(x.n)
				if !x.isAs(was) {
					t.Error("call", i, "of", count, "frames changes", x)
				}
				overwrite(m)
				if !x.isAs(was) {
					t.Error("what call", i, "of", count, "frames answers is shared", x)
				}
			}
			x := nested(9, count, seen)
			net.Right(x.n)
			net.Free(x.n)
			for _, i := range noPlaces(count) {
				net.Take(x.n, i)
				net.Double(x.n, i)
			}
			x.n.Room = count
			net.Send(x.n, gram(3))
			net.Double(x.n, 0)
			if !x.isAs(was) {
				t.Error("a call that is refused changes", x)
			}
		}
	}
}

// P6.3: neither the words of a frame that is sent, nor what stands behind them, are changed.
func TestSentWordsStay(t *testing.T) {
	whole := row{1, 2, 3, 4, 5, 6}
	n := netOf(9, 2)
	for range 5 {
		var e api.Errno
		if n, e = net.Send(n, api.Gram{To: 4, Words: whole[1:3]}); e != api.OK || !slices.Equal(n.Seen[len(n.Seen)-1], row{2, 3}) {
			t.Fatal(n, e)
		}
	}
	if _, g, e := net.Take(n, 4); e != api.OK || !sameGram(g, api.Gram{To: 4, Words: row{2, 3}}) {
		t.Error(g, e)
	}
	if !slices.Equal(whole, row{1, 2, 3, 4, 5, 6}) {
		t.Error(whole)
	}
}

// P6.3: what is answered is new memory: what is written into the net that was handed in, or into its room, isn't seen there, nor what is written into another answer.
func TestAnsweredIsNewMemory(t *testing.T) {
	for _, count := range []int{0, 1, 2, 3, 5} {
		for _, seen := range []int{0, 1, 4} {
			for i, call := range calls(count) {
				x := nested(9, count, seen)
				want := copyOf(call(x.n))
				one, two := call(x.n), call(x.n)
				overwrite(one)
				if !sameNet(two, want) {
					t.Error("call", i, "of", count, "frames: a write into one answer is seen in another one", two)
				}
				for k := range x.grams {
					x.grams[k] = api.Gram{To: 77, Words: row{77}}
				}
				for k := range x.seen {
					x.seen[k] = row{88}
				}
				if !sameNet(two, want) {
					t.Error("call", i, "of", count, "frames: a write into the net that was handed in is seen", two)
				}
			}
		}
	}
}

// P6.3: nets that are made of one net share no room behind their lists: each goes on by itself.
func TestAnswersGoOnApart(t *testing.T) {
	n := netOf(9, 2)
	// Sent one by one, so that the lists have whatever room behind them they get by growing.
	for i := range 4 {
		n, _ = net.Send(n, gram(10+i))
		was := copyOf(n)
		one, _ := net.Send(n, gram(20))
		two, _ := net.Send(n, gram(21))
		three, _ := net.Double(n, 0)
		four, _ := net.Double(n, 1)
		last := len(n.Grams)
		if !sameGram(one.Grams[last], gram(20)) || !sameGram(two.Grams[last], gram(21)) || !sameGram(three.Grams[last], gram(0)) || !sameGram(four.Grams[last], gram(1)) {
			t.Error(one, two, three, four)
		}
		if end := len(n.Seen); !slices.Equal(one.Seen[end], gram(20).Words) || !slices.Equal(two.Seen[end], gram(21).Words) {
			t.Error(one, two)
		}
		less, _, _ := net.Take(n, last-1)
		net.Send(less, gram(22))
		net.Double(less, 0)
		if !sameNet(n, was) {
			t.Error(n, was)
		}
	}
}

// Rule 8: what is answered hangs on what is handed in now, and on no call ahead of it.
func TestNothingIsKept(t *testing.T) {
	for _, one := range []api.Net{{}, netOf(3, 3), netOf(64, 5)} {
		for _, other := range []api.Net{{Room: 4}, netOf(4, 2), netOf(2, 2)} {
			net.Send(one, gram(30))
			net.Take(one, 1)
			net.Double(one, 1)
			net.Free(one)
			net.Right(one)
			checkCalls(t, other, gram(31))
		}
	}
}

// P1 of all layers: calls end, and don't panic, at nets too of which nothing is promised.
func TestEveryCallEnds(t *testing.T) {
	for _, room := range []int{math.MinInt, -65, -1, 0, 1, 2, 64, 65, math.MaxInt} {
		for _, count := range []int{0, 1, 3, 70} {
			n := api.Net{Room: room, Grams: grams(0, count)}
			net.Right(n)
			net.Free(n)
			net.Send(n, gram(count))
			for _, i := range append(noPlaces(count), 0, count-1) {
				net.Take(n, i)
				net.Double(n, i)
			}
		}
	}
}
