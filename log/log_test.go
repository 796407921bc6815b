package log_test

import (
	"math"
	"slices"
	"testing"

	"chamberlain/api"
	"chamberlain/log"
)

type row = []api.Event

// places are the numbers of an event, by their names; each that may count stands at the place of its bit, and the Clock behind them.
var places = []string{"Kind", "Proto", "Role", "A", "B", "K", "T", "M", "N", "Clock"}

// clock is the place of the number that never counts.
const clock = 9

// with answers an event with another number at a place.
func with(e api.Event, place, n int) api.Event {
	switch place {
	case 0:
		e.Kind = n
	case 1:
		e.Proto = n
	case 2:
		e.Role = n
	case 3:
		e.A = uint32(n)
	case 4:
		e.B = uint32(n)
	case 5:
		e.K = uint32(n)
	case 6:
		e.T = uint32(n)
	case 7:
		e.M = uint32(n)
	case 8:
		e.N = uint32(n)
	case clock:
		e.Clock = uint32(n)
	}
	return e
}

// number answers the number of an event at a place.
func number(e api.Event, place int) int {
	return []int{e.Kind, e.Proto, e.Role, int(e.A), int(e.B), int(e.K), int(e.T), int(e.M), int(e.N), int(e.Clock)}[place]
}

// event answers an event whose numbers are all unlike, and unlike those of another number, if both are at least 0 and below 1000.
func event(i int) api.Event {
	var e api.Event
	for place := range places {
		e = with(e, place, 1000*(place+1)+i)
	}
	return e
}

// some answers an event whose numbers are each below a bound, and look like any.
func some(bound, seed int) api.Event {
	var e api.Event
	state := uint32(seed)*2654435761 + 12345
	for place := range places {
		state = state*1664525 + 1013904223
		e = with(e, place, int(state>>8)%bound)
	}
	return e
}

// someOf answers so many events whose numbers are each below a bound, and look like any.
func someOf(count, bound, seed int) row {
	var l row
	for i := range count {
		l = append(l, some(bound, seed*1009+i))
	}
	return l
}

// ends answers numbers that are easily taken for each other at a place, or for nothing.
func ends(place int) []int {
	if place < 3 {
		return []int{math.MinInt, math.MinInt + 1, math.MinInt32, -2, -1, 0, 1, 2, 255, 256, 257, math.MaxInt32, 1 << 31, math.MaxUint32, 1 << 32, 1<<32 + 1, 1<<62 + 1, math.MaxInt - 1, math.MaxInt}
	}
	return []int{0, 1, 2, 255, 256, 257, 1 << 16, 1<<16 + 1, 1 << 30, 1<<30 + 1, math.MaxInt32, 1 << 31, 1<<31 + 1, math.MaxUint32 - 1, math.MaxUint32}
}

// bits answers how many bits the number at a place has.
func bits(place int) int {
	if place < 3 {
		return 64
	}
	return 32
}

// fits, chosen and matches tell the chapter's words anew; what is answered is new memory.
func fits(e, like api.Event, mask int) bool {
	for bit := range clock {
		if mask&(1<<bit) != 0 && number(e, bit) != number(like, bit) {
			return false
		}
	}
	return true
}

func chosen(l row, like api.Event, mask int) row {
	var c row
	for _, e := range l {
		if fits(e, like, mask) {
			c = append(c, e)
		}
	}
	return c
}

// matches goes through all ways to give each event of the first row one of the second.
func matches(a, b row, mask int) bool {
	given := make([]bool, len(b))
	var give func(at int) bool
	give = func(at int) bool {
		if at == len(a) {
			return true
		}
		for i, e := range b {
			if given[i] || !fits(e, a[at], mask) {
				continue
			}
			given[i] = true
			found := give(at + 1)
			given[i] = false
			if found {
				return true
			}
		}
		return false
	}
	return give(0)
}

// isFit asks what Fits answers of two events, either way about.
func isFit(t *testing.T, a, b api.Event, mask int, want bool) {
	t.Helper()
	if log.Fits(a, b, mask) != want || log.Fits(b, a, mask) != want {
		t.Fatalf("Fits(%+v, %+v, %d) isn't %v", a, b, mask, want)
	}
}

// isChosen asks that just these events are selected.
func isChosen(t *testing.T, l row, like api.Event, mask int, want row) {
	t.Helper()
	if got := log.Select(l, like, mask); !slices.Equal(got, want) {
		t.Fatalf("Select(%+v, %+v, %d) = %+v, want %+v", l, like, mask, got, want)
	}
}

// isMatch asks what Match answers.
func isMatch(t *testing.T, a, b row, mask int, want bool) {
	t.Helper()
	if log.Match(a, b, mask) != want {
		t.Fatalf("Match(%+v, %+v, %d) isn't %v", a, b, mask, want)
	}
}

// P19.1: which bit of a mask stands for which number, written out.
func TestBitsWrittenOut(t *testing.T) {
	e := event(0)
	for i, x := range []struct {
		other api.Event
		bit   int
	}{
		{api.Event{Kind: 7, Proto: e.Proto, Role: e.Role, A: e.A, B: e.B, K: e.K, T: e.T, M: e.M, N: e.N, Clock: e.Clock}, 1},
		{api.Event{Kind: e.Kind, Proto: 7, Role: e.Role, A: e.A, B: e.B, K: e.K, T: e.T, M: e.M, N: e.N, Clock: e.Clock}, 2},
		{api.Event{Kind: e.Kind, Proto: e.Proto, Role: 7, A: e.A, B: e.B, K: e.K, T: e.T, M: e.M, N: e.N, Clock: e.Clock}, 4},
		{api.Event{Kind: e.Kind, Proto: e.Proto, Role: e.Role, A: 7, B: e.B, K: e.K, T: e.T, M: e.M, N: e.N, Clock: e.Clock}, 8},
		{api.Event{Kind: e.Kind, Proto: e.Proto, Role: e.Role, A: e.A, B: 7, K: e.K, T: e.T, M: e.M, N: e.N, Clock: e.Clock}, 16},
		{api.Event{Kind: e.Kind, Proto: e.Proto, Role: e.Role, A: e.A, B: e.B, K: 7, T: e.T, M: e.M, N: e.N, Clock: e.Clock}, 32},
		{api.Event{Kind: e.Kind, Proto: e.Proto, Role: e.Role, A: e.A, B: e.B, K: e.K, T: 7, M: e.M, N: e.N, Clock: e.Clock}, 64},
		{api.Event{Kind: e.Kind, Proto: e.Proto, Role: e.Role, A: e.A, B: e.B, K: e.K, T: e.T, M: 7, N: e.N, Clock: e.Clock}, 128},
		{api.Event{Kind: e.Kind, Proto: e.Proto, Role: e.Role, A: e.A, B: e.B, K: e.K, T: e.T, M: e.M, N: 7, Clock: e.Clock}, 256},
		{api.Event{Kind: e.Kind, Proto: e.Proto, Role: e.Role, A: e.A, B: e.B, K: e.K, T: e.T, M: e.M, N: e.N, Clock: 7}, 0},
	} {
		isFit(t, x.other, e, 511, x.bit == 0)
		isFit(t, x.other, e, 511-x.bit, true)
		isFit(t, x.other, e, x.bit, x.bit == 0)
		isFit(t, x.other, e, 0, true)
		if x.bit != 0 && x.other != with(e, i, 7) {
			t.Error(i, "the places stand in another order than the bits")
		}
	}
}

// P19.1: Fits, written out.
func TestFitsWrittenOut(t *testing.T) {
	commit := api.Event{Kind: api.EvCommit, Proto: api.ProtoNS, Role: api.RoleB, A: 1, B: 2, K: 5, T: 3, N: 6, Clock: 4}
	run := api.Event{Kind: api.EvRun, Proto: api.ProtoNS, Role: api.RoleA, A: 1, B: 2, K: 5, T: 3, N: 7, Clock: 3}
	back := api.Event{Kind: api.EvCommit, Proto: api.ProtoNS, Role: api.RoleB, A: 2, B: 1, K: 5, T: 3, N: 6, Clock: 4}
	for _, x := range []struct {
		e, like api.Event
		mask    int
		want    bool
	}{
		{commit, run, 0, true},
		{commit, run, 1, false}, {commit, run, 2, true}, {commit, run, 4, false}, {commit, run, 8, true}, {commit, run, 16, true},
		{commit, run, 32, true}, {commit, run, 64, true}, {commit, run, 128, true}, {commit, run, 256, false}, {commit, run, 511, false},
		{commit, run, 2 | 8 | 16 | 32 | 64 | 128, true}, {commit, run, 8 | 16 | 32 | 64 | 256, false}, {commit, run, 1 | 8, false}, {commit, run, 2 | 4, false},
		{commit, back, 511, false}, {commit, back, 8, false}, {commit, back, 16, false}, {commit, back, 8 | 16, false}, {commit, back, 511 - 8 - 16, true}, {commit, back, 511 - 8, false}, {commit, back, 511 - 16, false},
		{run, back, 2 | 32 | 64 | 128, true}, {run, back, 2 | 16 | 32 | 64 | 128, false},
		{commit, commit, 511, true}, {run, run, 511, true}, {commit, api.Event{}, 0, true}, {commit, api.Event{}, 128, true}, {commit, api.Event{}, 511, false},
		{api.Event{}, api.Event{}, 511, true}, {api.Event{}, api.Event{Clock: 9}, 511, true}, {api.Event{}, api.Event{N: 9}, 511, false}, {api.Event{}, api.Event{N: 9}, 255, true},
	} {
		isFit(t, x.e, x.like, x.mask, x.want)
	}
}

// P19.1: each of the ten numbers turned alone, under each of the 512 masks: it tells just where its bit is in the mask; the Clock tells nowhere.
func TestEachNumberTurnedAlone(t *testing.T) {
	for _, e := range []api.Event{{}, event(0), some(3, 1), some(1<<31, 2)} {
		for place := range places {
			was := number(e, place)
			for _, n := range []int{was + 1, was - 1, ^was, was ^ 1<<31, was ^ 1<<16} {
				turned := with(e, place, n)
				for mask := range 512 {
					isFit(t, turned, e, mask, place == clock || mask>>place&1 == 0)
				}
			}
		}
	}
}

// P19.1: no bit of a number is overlooked: each turned alone tells, where the number counts.
func TestEachBitTurnedAlone(t *testing.T) {
	for _, e := range []api.Event{{}, event(5), some(1<<31, 3)} {
		for place := range clock {
			for bit := range bits(place) {
				turned := with(e, place, number(e, place)^1<<bit)
				isFit(t, turned, e, 1<<place, false)
				isFit(t, turned, e, 511, false)
				isFit(t, turned, e, 511-1<<place, true)
				isFit(t, turned, e, 0, true)
			}
		}
	}
}

// P19.1: every choice of numbers turned, under each of the 512 masks: one that counts is enough.
func TestSeveralTurned(t *testing.T) {
	e := event(3)
	for choice := range 1 << len(places) {
		turned := e
		for place := range places {
			if choice>>place&1 == 1 {
				turned = with(turned, place, 77+choice)
			}
		}
		for mask := range 512 {
			if log.Fits(turned, e, mask) != (choice&mask == 0) || log.Fits(e, turned, mask) != (choice&mask == 0) {
				t.Fatalf("Fits with %b turned, by %b", choice, mask)
			}
		}
	}
}

// P19.1: each number is held against the one at its own place: two that change places are two that differ, though they come to the same together.
func TestNumbersThatChangePlaces(t *testing.T) {
	e := event(8)
	for i := range places {
		for j := range i {
			turned := with(with(e, i, number(e, j)), j, number(e, i))
			same := with(e, i, number(e, j))
			sum := with(with(e, i, number(e, i)+1), j, number(e, j)-1)
			both := with(with(e, i, number(e, i)^5), j, number(e, j)^5)
			for mask := range 512 {
				differ := mask>>j&1 == 1 || i != clock && mask>>i&1 == 1
				isFit(t, turned, e, mask, !differ)
				isFit(t, sum, e, mask, !differ)
				isFit(t, both, e, mask, !differ)
				isFit(t, same, e, mask, i == clock || mask>>i&1 == 0)
				isFit(t, turned, same, mask, mask>>j&1 == 0)
			}
		}
	}
}

// P19.1: two numbers turned by a little each don't make up for each other, however they might be put together.
func TestTwoTurnedByALittle(t *testing.T) {
	e := event(8)
	for i := range clock {
		for j := range i {
			for _, by := range []int{1, 2, 31} {
				for other := -300; other <= 300; other++ {
					turned := with(with(e, i, number(e, i)+by), j, number(e, j)+other)
					isFit(t, turned, e, 511, false)
					isFit(t, turned, e, 1<<i|1<<j, false)
					isFit(t, turned, e, 511-1<<i, other == 0)
				}
			}
		}
	}
}

// P19.1: numbers at the ends of their types, and such as would be taken for each other if they were cut: each differs from each other one.
func TestEndsOfTypes(t *testing.T) {
	for place := range places {
		for _, base := range []api.Event{{}, event(1)} {
			for _, n := range ends(place) {
				for _, m := range ends(place) {
					e, like := with(base, place, n), with(base, place, m)
					for _, mask := range []int{0, 1 << place & 511, 511 - 1<<place&511, 511} {
						counts := place != clock && mask>>place&1 == 1
						isFit(t, e, like, mask, n == m || !counts)
						isMatch(t, row{e}, row{like}, mask, n == m || !counts)
						if got := log.Select(row{e}, like, mask); len(got) == 1 != (n == m || !counts) {
							t.Fatal(places[place], n, m, mask, got)
						}
					}
				}
			}
		}
	}
}

// P19.1: by 0 all fit; by 511 just those that differ in nothing but the Clock.
func TestLeastAndGreatestMask(t *testing.T) {
	l := append(someOf(60, 2, 1), event(0), event(1), api.Event{}, api.Event{Clock: 1})
	for _, a := range l {
		isChosen(t, l, a, 0, l)
		for _, b := range l {
			isFit(t, a, b, 0, true)
			same := a
			same.Clock = b.Clock
			isFit(t, a, b, 511, same == b)
			isFit(t, same, a, 511, true)
		}
	}
}

// P19.1: Fits of events that look like any, of few numbers, so that many are alike, under each of the 512 masks.
func TestFitsOfAny(t *testing.T) {
	for seed := range 60 {
		a, b := some(2, seed), some(2, seed+1000)
		for mask := range 512 {
			isFit(t, a, b, mask, fits(a, b, mask))
		}
	}
}

// P19.1: Select, written out: none, one, several and all, in order; events that are alike come one by one, and each comes whole.
func TestSelectWrittenOut(t *testing.T) {
	e := event(0)
	f, g, late := with(e, 5, 1), with(e, 8, 1), with(e, clock, 1)
	l := row{e, f, g, e, late}
	for _, x := range []struct {
		l    row
		like api.Event
		mask int
		want row
	}{
		{l, e, 511, row{e, e, late}},
		{l, late, 511, row{e, e, late}},
		{l, f, 511, row{f}},
		{l, g, 511, row{g}},
		{l, event(1), 511, nil},
		{l, e, 32, row{e, g, e, late}},
		{l, f, 32, row{f}},
		{l, g, 32, row{e, g, e, late}},
		{l, e, 256, row{e, f, e, late}},
		{l, g, 256, row{g}},
		{l, with(f, 8, 1), 32 | 256, nil},
		{l, with(f, 8, 1), 32, row{f}},
		{l, with(f, 8, 1), 256, row{g}},
		{l, with(f, 8, 1), 511 - 32 - 256, l},
		{l, event(1), 0, l},
		{l, api.Event{}, 0, l},
		{l, api.Event{}, 1, nil},
		{l, api.Event{Kind: e.Kind}, 1, l},
		{l, api.Event{Kind: e.Kind, N: 1}, 1 | 256, row{g}},
		{row{late, e, late, e, e}, e, 511, row{late, e, late, e, e}},
		{row{g, f, e}, e, 255, row{g, e}},
		{row{e}, e, 511, row{e}},
		{row{e}, f, 511, nil},
		{row{{}}, api.Event{}, 511, row{{}}},
		{row{{}, {}, {}}, api.Event{}, 511, row{{}, {}, {}}},
		{row{{}, {Clock: 2}}, api.Event{Clock: 1}, 511, row{{}, {Clock: 2}}},
		{nil, e, 0, nil},
		{row{}, e, 0, nil},
		{nil, api.Event{}, 511, nil},
		{row{}, api.Event{}, 511, nil},
	} {
		isChosen(t, x.l, x.like, x.mask, x.want)
	}
}

// P19.1: of rows of every length, one that fits is found at whatever place, and so are all but one.
func TestSelectAtEachPlace(t *testing.T) {
	like, other := event(0), event(1)
	for _, mask := range []int{1, 2, 4, 8, 16, 32, 64, 128, 256, 511, 33} {
		for n := 1; n <= 20; n++ {
			for at := range n {
				one, most := slices.Repeat(row{other}, n), slices.Repeat(row{like}, n)
				one[at], most[at] = with(like, clock, at), other
				isChosen(t, one, like, mask, row{with(like, clock, at)})
				isChosen(t, most, like, mask, slices.Repeat(row{like}, n-1))
			}
		}
	}
}

// P19.1: Select under each of the 512 masks, of rows that look like any; each event's Clock tells its place, so that the order is seen.
func TestSelectUnderEachMask(t *testing.T) {
	for seed := range 8 {
		l := someOf(40, 2, seed)
		for i := range l {
			l[i].Clock = uint32(i)
		}
		for mask := range 512 {
			for _, like := range []api.Event{l[0], l[39], some(2, seed+500), {}, event(0)} {
				isChosen(t, l, like, mask, chosen(l, like, mask))
			}
		}
	}
}

// P19.1: what is selected are just the events that fit, one by one.
func TestSelectIsWhatFits(t *testing.T) {
	l := someOf(30, 2, 77)
	for mask := range 512 {
		for _, like := range l[:5] {
			var want row
			for _, e := range l {
				if log.Fits(e, like, mask) {
					want = append(want, e)
				}
			}
			isChosen(t, l, like, mask, want)
		}
	}
}

// P19.2: the chapter's example.
func TestExample(t *testing.T) {
	commit := api.Event{Kind: api.EvCommit, Proto: api.ProtoNS, Role: api.RoleB, A: 1, B: 2, K: 9}
	run := api.Event{Kind: api.EvRun, Proto: api.ProtoNS, Role: api.RoleA, A: 1, B: 2, K: 9}
	isMatch(t, row{commit, commit}, row{run}, 32, false)
	isMatch(t, row{commit}, row{run}, 32, true)
	isMatch(t, row{commit, commit}, row{run, run}, 32, true)
}

// P19.2: Match, written out.
func TestMatchWrittenOut(t *testing.T) {
	e, f, g := event(0), event(1), event(2)
	late, key := with(e, clock, 5), with(e, 8, 5)
	for i, x := range []struct {
		a, b row
		mask int
		want bool
	}{
		{nil, nil, 511, true}, {row{}, nil, 511, true}, {nil, row{}, 511, true}, {row{}, row{}, 0, true},
		{nil, row{e}, 511, true}, {row{}, row{e, f}, 0, true},
		{row{e}, nil, 0, false}, {row{e}, row{}, 0, false}, {row{{}}, nil, 511, false}, {row{{}}, row{}, 0, false}, {row{e, f}, nil, 511, false},
		{row{{}}, row{{}}, 511, true}, {row{{}, {}}, row{{}}, 511, false}, {row{{}}, row{{}, {}}, 511, true},
		{row{e}, row{e}, 511, true}, {row{e}, row{f}, 511, false}, {row{e}, row{f}, 0, true}, {row{e}, row{f, e}, 511, true}, {row{e}, row{f, g}, 511, false},
		{row{e, f}, row{f, e}, 511, true}, {row{e, f, g}, row{g, f, e}, 511, true}, {row{e, f, g}, row{f, g, e}, 511, true},
		{row{e, f}, row{e}, 511, false}, {row{e, f}, row{f}, 511, false}, {row{e, f}, row{e, g}, 511, false}, {row{e, f}, row{g, f, g}, 511, false}, {row{e, f}, row{g, f, g, e}, 511, true},
		{row{e, e}, row{e}, 511, false}, {row{e, e}, row{e, f}, 511, false}, {row{e, e}, row{e, e}, 511, true}, {row{e, e}, row{e, f, e}, 511, true}, {row{e, e}, row{f, f}, 511, false},
		{row{e}, row{e, e}, 511, true}, {row{e, f}, row{e, e}, 511, false}, {row{e, f, e}, row{e, e, f}, 511, true}, {row{e, f, e}, row{e, f, f}, 511, false}, {row{e, e, e}, row{e, e, f, f}, 511, false},
		{row{e, f}, row{g}, 0, false}, {row{e, f}, row{g, g}, 0, true}, {row{e, f}, row{g, g, g}, 0, true}, {row{e, f, g}, row{e, f}, 0, false},
		{row{e}, row{late}, 511, true}, {row{e, late}, row{late, e}, 511, true}, {row{e, e}, row{late}, 511, false}, {row{e, e}, row{late, late}, 511, true}, {row{e, late}, row{late, f}, 511, false}, {row{e, late}, row{e, f, e}, 511, true},
		{row{e}, row{key}, 255, true}, {row{e}, row{key}, 511, false}, {row{e, key}, row{key, key}, 255, true}, {row{e, key}, row{key, key}, 511, false}, {row{e, key}, row{key, late}, 511, true}, {row{e, key}, row{key}, 255, false}, {row{key, key}, row{e, late}, 256, false}, {row{key, key}, row{e, late}, 1, true},
	} {
		if log.Match(x.a, x.b, x.mask) != x.want {
			t.Error(i, x)
		}
	}
}

// P19.2: of one event each, rows match just where the one fits the other, under each of the 512 masks, whichever number is turned.
func TestMatchOfOneIsFits(t *testing.T) {
	for _, e := range []api.Event{{}, event(0), some(1<<31, 9)} {
		for place := range places {
			turned := with(e, place, number(e, place)+1)
			for mask := range 512 {
				fit := place == clock || mask>>place&1 == 0
				isMatch(t, row{turned}, row{e}, mask, fit)
				isMatch(t, row{e}, row{turned}, mask, fit)
				isMatch(t, row{e, turned}, row{turned, e}, mask, true)
				isMatch(t, row{e, e}, row{turned, e}, mask, fit)
				isMatch(t, row{e, turned}, row{e, e}, mask, fit)
				isMatch(t, row{e, turned}, row{e}, mask, false)
				isMatch(t, row{e}, row{turned, turned}, mask, fit)
			}
		}
	}
}

// allRows answers every row of at most n of these events.
func allRows(n int, of row) []row {
	all := []row{nil}
	for last := all; n > 0; n-- {
		var longer []row
		for _, l := range last {
			for _, e := range of {
				longer = append(longer, append(slices.Clone(l), e))
			}
		}
		all = append(all, longer...)
		last = longer
	}
	return all
}

// P19.2: every two rows of a few events, which differ in numbers that count by one mask and don't by another, held against a search through all ways.
func TestMatchIsAWay(t *testing.T) {
	e := event(0)
	rows := allRows(4, row{e, with(e, 5, 1), with(e, 8, 1), with(with(e, 5, 1), 8, 1)})
	for _, mask := range []int{0, 32, 256, 511} {
		for _, a := range rows {
			for _, b := range rows {
				isMatch(t, a, b, mask, matches(a, b, mask))
			}
		}
	}
}

// P19.2: rows of events that look like any, held against a search through all ways, under each of the 512 masks.
func TestMatchOfAny(t *testing.T) {
	told := map[bool]int{}
	for seed := range 30 {
		for mask := range 512 {
			a, b := someOf(seed%5, 2, seed*512+mask), someOf(seed*7%6, 2, 99999+seed*512+mask)
			// Of few events taken at random hardly any would match: b gets some that a has, with other numbers where none counts.
			for i, e := range a[:len(a)*(seed%3)/2] {
				for place := range places {
					if mask>>place&1 == 0 {
						e = with(e, place, i+seed)
					}
				}
				b = append(b, e)
			}
			want := matches(a, b, mask)
			told[want]++
			isMatch(t, a, b, mask, want)
		}
	}
	if told[true] < 1000 || told[false] < 1000 {
		t.Error("the rows are too much alike", told)
	}
}

// mixed answers a row in another order: each event goes to the place that is step times its own, gone round; step and the length have nothing in common.
func mixed(l row, step int) row {
	m := make(row, len(l))
	for i, e := range l {
		m[i*step%len(l)] = e
	}
	return m
}

// P19.2: the order makes no difference, nor what the second row has beside; what the second row lacks, or has once too few, does, at whatever place.
func TestMatchInWhateverOrder(t *testing.T) {
	for _, n := range []int{1, 2, 3, 10, 31, 101} {
		unlike := make(row, n)
		for i := range unlike {
			unlike[i] = event(i)
		}
		for _, l := range []row{unlike, someOf(n, 2, n), slices.Repeat(row{event(1)}, n), append(slices.Clone(unlike[:n/2]), unlike[:n-n/2]...)} {
			for _, mask := range []int{511, 0, 32, 8 | 16 | 128} {
				for _, step := range []int{1, 7, n - 1, n + 1} {
					if step == 0 {
						continue
					}
					m := mixed(l, step)
					isMatch(t, l, m, mask, true)
					isMatch(t, m, l, mask, true)
					isMatch(t, l, append(row{event(500)}, m...), mask, true)
					isMatch(t, l, append(m, l...), mask, true)
				}
				for at := range l {
					fewer := slices.Delete(slices.Clone(l), at, at+1)
					isMatch(t, l, fewer, mask, false)
					isMatch(t, fewer, l, mask, true)
					isMatch(t, append(slices.Clone(l), l[at]), l, mask, false)
					// Another one in its place: but for the mask that counts nothing, it fits none.
					isMatch(t, l, append(fewer, event(500)), mask, mask == 0)
				}
			}
		}
	}
}

// P19.2: an event that is there so often in the one row and so often in the other.
func TestMatchOfHowOften(t *testing.T) {
	e, f := event(0), event(1)
	for a := range 6 {
		for b := range 6 {
			for c := range 4 {
				for d := range 4 {
					l := append(slices.Repeat(row{e}, a), slices.Repeat(row{f}, c)...)
					m := append(slices.Repeat(row{f}, d), slices.Repeat(row{e}, b)...)
					isMatch(t, l, m, 511, a <= b && c <= d)
					isMatch(t, l, m, 256, a <= b && c <= d)
					isMatch(t, l, m, 0, a+c <= b+d)
					slices.Reverse(m)
					isMatch(t, l, m, 511, a <= b && c <= d)
				}
			}
		}
	}
}

// P19.2: rows that match by a mask match by each that counts less; those that don't match by one don't by each that counts more.
func TestMatchByLessAndMore(t *testing.T) {
	for seed := range 40 {
		a, b := someOf(2, 2, seed), someOf(6, 2, seed+700)
		for mask := range 512 {
			for bit := range 9 {
				if log.Match(a, b, mask|1<<bit) && !log.Match(a, b, mask&^(1<<bit)) {
					t.Fatal(seed, mask, bit)
				}
			}
		}
	}
	// Each number that counts may be the one that makes it.
	e := event(0)
	for place := range clock {
		turned := with(e, place, 3)
		isMatch(t, row{e, turned}, row{e, e}, 511-1<<place, true)
		isMatch(t, row{e, turned}, row{e, e}, 511, false)
	}
}

// P19.2: events that differ in nothing but the Clock are given for one another.
func TestMatchOfOtherClocks(t *testing.T) {
	for _, clocks := range [][2]int{{0, 1}, {1, 0}, {0, math.MaxUint32}, {1 << 30, 1 << 31}, {7, 7}} {
		for _, e := range []api.Event{{}, event(0), some(1<<31, 4)} {
			one, other := with(e, clock, clocks[0]), with(e, clock, clocks[1])
			for mask := range 512 {
				isFit(t, one, other, mask, true)
				isChosen(t, row{one, other, one}, other, mask, row{one, other, one})
				isMatch(t, row{one, one}, row{other, one}, mask, true)
				isMatch(t, row{one, other}, row{other, other, other}, mask, true)
				isMatch(t, row{one, other}, row{one}, mask, false)
			}
		}
	}
}

// P19.1, P19.2: what stands ahead of a row, or in the room behind its length, isn't in it.
func TestRoomBehindIsNotInIt(t *testing.T) {
	e, f := event(0), event(1)
	whole := row{e, e, f, e, e}
	l := whole[2:3]
	isChosen(t, l, e, 511, nil)
	isChosen(t, l, f, 511, row{f})
	isChosen(t, whole[:0], e, 0, nil)
	isChosen(t, whole[:2], f, 511, nil)
	isMatch(t, l, row{f}, 511, true)
	isMatch(t, row{f, f}, l, 511, false)
	isMatch(t, row{f, e}, l, 511, false)
	isMatch(t, row{e}, l, 511, false)
	isMatch(t, row{e}, whole[:0], 0, false)
	isMatch(t, whole[:0], nil, 511, true)
	isMatch(t, whole[1:2], row{e}, 511, true)
	// Two rows of one memory are two rows.
	isMatch(t, whole, whole, 511, true)
	isMatch(t, whole[:2], whole[1:4], 511, true)
	isMatch(t, whole[:3], whole[3:], 511, false)
	isMatch(t, whole[:3], whole[2:], 511, true)
	isMatch(t, whole[2:], whole[:4], 511, true)
	isMatch(t, whole[:4], whole[2:], 0, false)
}

// rowIn answers n events in the midst of a longer row, with room behind them, and that row.
func rowIn(n, seed int) (whole, l row) {
	whole = someOf(n+7, 2, seed)
	return whole, whole[3 : n+3]
}

// fill fills a row, and the room behind its length, with another event.
func fill(l row) {
	for i := range l[:cap(l)] {
		l[:cap(l)][i] = event(777)
	}
}

// P19.3: no call changes a row, nor what stands ahead of it and in the room behind its length; nor does a write into what was answered.
func TestHandedInStays(t *testing.T) {
	for n := range 12 {
		for mask := range 512 {
			one, a := rowIn(n, mask)
			other, b := rowIn(11-n, mask+600)
			wasOne, wasOther := slices.Clone(one), slices.Clone(other)
			like := some(2, mask)
			was := like
			log.Match(a, b, mask)
			log.Match(b, a, mask)
			log.Match(a, a, mask)
			log.Match(a, one, mask)
			fill(log.Select(a, like, mask))
			fill(log.Select(one, like, mask))
			got := append(log.Select(b, like, mask), event(1), event(2))
			fill(got)
			for _, e := range one {
				log.Fits(e, like, mask)
			}
			if !slices.Equal(one, wasOne) || !slices.Equal(other, wasOther) || like != was {
				t.Fatal(n, mask, one, other, like)
			}
		}
	}
}

// P19.3: what Select answers is new memory: a write into the row that was handed in, or into another answer, isn't seen there; not even if all were selected.
func TestSelectedIsNewMemory(t *testing.T) {
	for n := range 12 {
		for mask := range 512 {
			whole, l := rowIn(n, mask)
			like := some(2, mask+40)
			want := chosen(l, like, mask)
			one, two, three := log.Select(l, like, mask), log.Select(l, like, mask), log.Select(l, like, mask)
			fill(one)
			if !slices.Equal(two, want) || !slices.Equal(three, want) {
				t.Fatal(n, mask, "a write into one answer is seen in another one", two, three)
			}
			longer := append(two, event(1))
			if fill(longer); !slices.Equal(three, want) {
				t.Fatal(n, mask, "what is put behind one answer is seen in another one", three)
			}
			isChosen(t, l, like, mask, want)
			fill(whole)
			if !slices.Equal(three, want) {
				t.Fatal(n, mask, "a write into the row that was handed in is seen", three)
			}
		}
	}
}

// P19.3: what was selected is the caller's own: selected from again, and put behind one another, it leaves the row it came from.
func TestSelectedGoesOnApart(t *testing.T) {
	whole, l := rowIn(20, 5)
	was := slices.Clone(whole)
	all := log.Select(l, event(0), 0)
	few := log.Select(all, l[0], 1)
	one := append(few, event(1))
	two := append(slices.Clone(few), event(2))
	if !slices.Equal(all, l) || !slices.Equal(few, chosen(l, l[0], 1)) || one[len(one)-1] != event(1) || two[len(two)-1] != event(2) || !slices.Equal(whole, was) {
		t.Error(all, few, one, two, whole)
	}
	isMatch(t, few, all, 511, true)
	all[0] = event(9)
	isMatch(t, all, l, 511, false)
	isMatch(t, l, whole, 511, true)
}

// Rule 8: what is answered hangs on what is handed in now, and on no call ahead of it.
func TestNothingIsKept(t *testing.T) {
	e, f := event(0), event(1)
	l := row{e, f, e}
	for _, mask := range []int{0, 1, 32, 255, 256, 511} {
		for range 3 {
			log.Match(someOf(50, 2, mask), someOf(70, 2, mask+1), 511)
			log.Match(row{e, e, e}, l, mask)
			log.Match(nil, row{e, f, f, f, e, e}, mask)
			log.Select(someOf(50, 2, mask), e, 511-mask)
			log.Fits(f, e, 511-mask)
			isFit(t, f, e, mask, mask == 0)
			isChosen(t, l, f, mask, chosen(l, f, mask))
			isMatch(t, row{e, e, e}, l, mask, mask == 0)
			isMatch(t, row{f, e}, l, mask, true)
			isMatch(t, row{f, f}, l, mask, mask == 0)
		}
	}
}

// P19.1, P19.2: long rows, gone through within the time of a test: a search through all ways would not end.
func TestLongRows(t *testing.T) {
	const n = 20000
	l := make(row, n)
	for i := range l {
		l[i] = api.Event{Kind: i % 3, A: uint32(i % 5), K: uint32(i), Clock: uint32(n - i)}
	}
	m := slices.Clone(l)
	slices.Reverse(m)
	isMatch(t, l, m, 511, true)
	isMatch(t, l, m, 9, true)
	isMatch(t, l, m[1:], 511, false)
	isMatch(t, l, m[1:], 0, false)
	m[n/2].K = n
	isMatch(t, l, m, 511, false)
	isMatch(t, l, m, 511-32, true)
	if got := log.Select(l, api.Event{A: 4}, 8); len(got) != n/5 || got[0] != l[4] || got[n/5-1] != l[n-1] {
		t.Error(len(got))
	}
	if got := log.Select(l, l[77], 32); len(got) != 1 || got[0] != l[77] {
		t.Error(got)
	}
}

// P1 of all layers: calls end, and don't panic, at masks too of which nothing is promised.
func TestEveryCallEnds(t *testing.T) {
	masks := []int{math.MinInt, math.MinInt + 1, math.MinInt32, -513, -512, -511, -2, -1, 512, 513, 1023, 1024, 1 << 31, 1 << 32, 1 << 62, math.MaxInt - 1, math.MaxInt}
	for mask := range 512 {
		masks = append(masks, mask)
	}
	rows := []row{nil, {}, {{}}, {event(0)}, someOf(9, 1<<31, 1), make(row, 40)}
	for _, mask := range masks {
		for _, a := range rows {
			for _, b := range rows {
				log.Match(a, b, mask)
			}
			for _, e := range []api.Event{{}, event(0), {Kind: math.MinInt, Proto: math.MaxInt, Role: -1, A: math.MaxUint32, Clock: math.MaxUint32}} {
				log.Select(a, e, mask)
				log.Fits(e, event(1), mask)
			}
		}
	}
}
