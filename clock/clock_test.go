package clock_test

import (
	"math"
	"math/big"
	"slices"
	"testing"

	"chamberlain/api"
	"chamberlain/clock"
)

const (
	// end is where clocks end.
	end = 1073741824
	// most is the greatest number of 32 bits.
	most = math.MaxUint32
)

// edges are numbers at which an answer may turn, and those beside them: for a clock, a time, a window, and what a clock goes on by.
var edges = []uint32{
	0, 1, 2, 3, 4, 5, 6, 7,
	1<<16 - 1, 1 << 16, api.MaxWindow - 1, api.MaxWindow, api.MaxWindow + 1,
	end/2 - 1, end / 2, end/2 + 1,
	end - 6, end - 5, end - 2, end - 1, end, end + 1, end + 5,
	1<<31 - 1, 1 << 31, 1<<31 + 1, 3<<30 - 1, 3 << 30, 3<<30 + 1,
	most - end, most - 5, most - 1, most,
}

// great answers a number in as many bits as it takes, so that nothing goes round.
func great(n uint32) *big.Int { return new(big.Int).SetUint64(uint64(n)) }

// tick tells the chapter's words anew: both numbers together, but the end, if that is more.
func tick(now, by uint32) uint32 {
	n := new(big.Int).Add(great(now), great(by))
	if n.Cmp(great(end)) > 0 {
		return end
	}
	return uint32(n.Uint64())
}

// fresh tells the chapter's words anew: neither is at its end or above, and they differ by the window at most.
func fresh(now, t, w uint32) bool {
	differ := new(big.Int).Sub(great(now), great(t))
	return now < end && t < end && differ.Abs(differ).Cmp(great(w)) <= 0
}

// over tells the chapter's words anew: above the time and the window together, or at its end or above.
func over(now, t, w uint32) bool {
	return great(now).Cmp(new(big.Int).Add(great(t), great(w))) > 0 || now >= end
}

// around answers the numbers that differ from n by w less one, by w, by one more, on either side, as far as they are numbers of 32 bits.
func around(n, w uint32) []uint32 {
	var l []uint32
	for _, by := range []int64{-1, 0, 1} {
		for _, m := range []int64{int64(n) - int64(w) + by, int64(n) + int64(w) + by} {
			if m >= 0 && m <= most {
				l = append(l, uint32(m))
			}
		}
	}
	return l
}

func TestEndIsTheLimit(t *testing.T) {
	if end != api.MaxTime {
		t.Error(api.MaxTime)
	}
}

// P5.1: Tick, written out: below the end, up to it, beyond it, of a clock at it and above, and of sums that don't fit 32 bits.
func TestTickWrittenOut(t *testing.T) {
	for _, x := range []struct{ now, by, want uint32 }{
		{0, 0, 0}, {0, 1, 1}, {1, 0, 1}, {3, 4, 7}, {4, 3, 7}, {1000000, 24, 1000024}, {end / 2, end/2 - 1, end - 1},
		{0, end - 1, end - 1}, {0, end, end}, {0, end + 1, end}, {0, 1 << 31, end}, {0, most, end},
		{end - 2, 0, end - 2}, {end - 2, 1, end - 1}, {end - 2, 2, end}, {end - 2, 3, end},
		{end - 1, 0, end - 1}, {end - 1, 1, end}, {end - 1, 2, end}, {end - 1, 5, end}, {end - 1, most, end},
		{end / 2, end / 2, end}, {end / 2, end/2 + 1, end},
		{end, 0, end}, {end, 1, end}, {end, end, end}, {end, 3 << 30, end}, {end, most, end},
		{end + 1, 0, end}, {end + 1, 1, end}, {1 << 31, 0, end}, {most, 0, end},
		{1, most, end}, {2, most, end}, {most, 1, end}, {most, 2, end}, {5, most - 3, end}, {end - 1, most - 7, end},
		{1 << 31, 1 << 31, end}, {1 << 31, 1<<31 + 3, end}, {3 << 30, end, end}, {3 << 30, end + 9, end}, {most, most, end},
	} {
		if n := clock.Tick(x.now, x.by); n != x.want {
			t.Errorf("Tick(%d, %d) = %d, want %d", x.now, x.by, n, x.want)
		}
	}
}

// P5.1: Tick, of whatever two numbers stand at an edge.
func TestTick(t *testing.T) {
	for _, now := range edges {
		for _, by := range edges {
			if n := clock.Tick(now, by); n != tick(now, by) {
				t.Errorf("Tick(%d, %d) = %d, want %d", now, by, n, tick(now, by))
			}
		}
		// What is missing to the end, and to where 32 bits go round.
		for _, to := range []int64{end, most, most + 1} {
			for _, by := range []int64{to - int64(now) - 1, to - int64(now), to - int64(now) + 1} {
				if by < 0 || by > most {
					continue
				}
				if n := clock.Tick(now, uint32(by)); n != tick(now, uint32(by)) {
					t.Errorf("Tick(%d, %d) = %d, want %d", now, by, n, tick(now, uint32(by)))
				}
			}
		}
	}
}

// P5.1: Fresh and Over, written out: the chapter's examples, and a time on either side of the clock, at the window's edges and at the clock's end.
func TestFreshAndOverWrittenOut(t *testing.T) {
	for _, x := range []struct {
		now, t, w   uint32
		fresh, over bool
	}{
		{5, 3, 2, true, false}, {6, 3, 2, false, true}, {4, 3, 2, true, false}, {3, 3, 2, true, false}, {2, 3, 2, true, false}, {1, 3, 2, true, false}, {0, 3, 2, false, false},
		{0, 0, 0, true, false}, {1, 0, 0, false, true}, {0, 1, 0, false, false}, {7, 7, 0, true, false}, {8, 7, 0, false, true}, {6, 7, 0, false, false},
		{0, 5, 4, false, false}, {0, 5, 5, true, false}, {0, 5, 6, true, false}, {5, 0, 4, false, true}, {5, 0, 5, true, false}, {5, 0, 6, true, false},
		{100 + api.MaxWindow, 100, api.MaxWindow, true, false}, {101 + api.MaxWindow, 100, api.MaxWindow, false, true}, {100, 100 + api.MaxWindow, api.MaxWindow, true, false}, {100, 101 + api.MaxWindow, api.MaxWindow, false, false},
		{end - 1, end - 1, 0, true, false}, {end - 1, end - 2, 0, false, true}, {end - 2, end - 1, 0, false, false}, {end - 1, end - 6, 5, true, false}, {end - 1, end - 7, 5, false, true},
		{end, end, 0, false, true}, {end, end, most, false, true}, {end, end - 1, 5, false, true}, {end, 0, most, false, true}, {end + 1, end - 1, 5, false, true}, {most, most, 0, false, true}, {most, 0, most, false, true}, {end, most, most, false, true},
		{end - 1, end, 0, false, false}, {end - 1, end, 5, false, false}, {end - 1, end + 1, 5, false, false}, {end - 1, end, most, false, false}, {0, end, most, false, false}, {0, most, most, false, false}, {5, most, 9, false, false},
		{0, end - 1, most, true, false}, {end - 1, 0, most, true, false}, {end - 1, 0, end - 1, true, false}, {end - 1, 0, end - 2, false, true}, {0, end - 1, end - 1, true, false}, {0, end - 1, end - 2, false, false},
		{9, 3, most - 2, true, false}, {9, 3, most - 1, true, false}, {3, 9, most - 2, true, false}, {9, most, 1, false, false}, {9, most, most, false, false}, {9, 1 << 31, 1 << 31, false, false}, {9, 3 << 30, end, false, false},
		{1 << 29, 1, 1<<29 - 2, false, true}, {1 << 29, 1, 1<<29 - 1, true, false}, {1 << 29, 1, 1 << 31, true, false},
	} {
		if is := clock.Fresh(x.now, x.t, x.w); is != x.fresh {
			t.Errorf("Fresh(%d, %d, %d) = %v", x.now, x.t, x.w, is)
		}
		if is := clock.Over(x.now, x.t, x.w); is != x.over {
			t.Errorf("Over(%d, %d, %d) = %v", x.now, x.t, x.w, is)
		}
	}
}

// P5.1: Fresh and Over, of whatever three numbers stand at an edge, and of times that differ from the clock by about the window.
func TestFreshAndOver(t *testing.T) {
	for _, now := range edges {
		for _, w := range edges {
			for _, time := range slices.Concat(edges, around(now, w)) {
				if is := clock.Fresh(now, time, w); is != fresh(now, time, w) {
					t.Errorf("Fresh(%d, %d, %d) = %v", now, time, w, is)
				}
				if is := clock.Over(now, time, w); is != over(now, time, w) {
					t.Errorf("Over(%d, %d, %d) = %v", now, time, w, is)
				}
			}
		}
	}
}

// P5.1: all small numbers, where each step of one turns an answer.
func TestSmallNumbers(t *testing.T) {
	const few = 24
	for a := range uint32(few) {
		for b := range uint32(few) {
			if n := clock.Tick(a, b); n != a+b {
				t.Errorf("Tick(%d, %d) = %d", a, b, n)
			}
			for w := range uint32(few) {
				if is := clock.Fresh(a, b, w); is != fresh(a, b, w) || is != clock.Fresh(b, a, w) {
					t.Errorf("Fresh(%d, %d, %d) = %v", a, b, w, is)
				}
				if is := clock.Over(a, b, w); is != (a > b+w) {
					t.Errorf("Over(%d, %d, %d) = %v", a, b, w, is)
				}
			}
		}
	}
}

// P5.2: from 0 up to its end a clock never goes back; it gets no further than its end, and stays there.
func TestClocksNeverGoBack(t *testing.T) {
	for _, now := range edges {
		for _, by := range edges {
			n := clock.Tick(now, by)
			if n > end {
				t.Errorf("Tick(%d, %d) = %d: no clock", now, by, n)
			}
			if now <= end && n < now {
				t.Errorf("Tick(%d, %d) = %d: back", now, by, n)
			}
			if now >= end && n != end {
				t.Errorf("Tick(%d, %d) = %d: not at its end any more", now, by, n)
			}
		}
	}
	for _, by := range edges[1:] {
		now := uint32(0)
		// A clock that goes on by little is put near its end, so that it gets there.
		if by < end/100 {
			now = end - 50*by
		}
		for range 60 {
			next := clock.Tick(now, by)
			if next < now || next == now && now != end {
				t.Fatalf("Tick(%d, %d) = %d", now, by, next)
			}
			now = next
		}
		if now != end {
			t.Errorf("by %d, at last: %d", by, now)
		}
	}
}

// P5.2: what is over isn't fresh, then and however far the clock goes on; and stays over.
func TestOverIsNeverFresh(t *testing.T) {
	for _, now := range edges {
		for _, w := range edges {
			for _, time := range slices.Concat(edges, around(now, w)) {
				if clock.Over(now, time, w) {
					staysOver(t, now, time, w)
				}
			}
		}
	}
}

// staysOver has a clock for which a time is over go on by each edge, and step by step.
func staysOver(t *testing.T, now, time, w uint32) {
	if clock.Fresh(now, time, w) {
		t.Errorf("Over and Fresh(%d, %d, %d)", now, time, w)
	}
	later := now
	for _, by := range edges {
		once := clock.Tick(now, by)
		later = clock.Tick(later, by)
		for _, n := range []uint32{once, later} {
			if clock.Fresh(n, time, w) || !clock.Over(n, time, w) {
				t.Errorf("over at %d, and at %d Fresh(%d, %d) = %v", now, n, time, w, clock.Fresh(n, time, w))
			}
		}
	}
}

// P5.2: a clock that goes on one by one, at its beginning and up to its end: each answer is the words', no time is fresh and over at once, and none that was over is so no more.
func TestOneByOne(t *testing.T) {
	for _, from := range []uint32{0, end - 40} {
		for time := from; time < from+45; time += 3 {
			for _, w := range []uint32{0, 1, 4, 10, 50, most} {
				left, now := false, from
				for range 45 {
					isFresh, isOver := clock.Fresh(now, time, w), clock.Over(now, time, w)
					if isFresh != fresh(now, time, w) || isOver != over(now, time, w) || isFresh && isOver {
						t.Errorf("at %d, of %d and %d: %v, %v", now, time, w, isFresh, isOver)
					}
					if left && !isOver {
						t.Errorf("over, and at %d not any more: %d, %d", now, time, w)
					}
					left, now = isOver, clock.Tick(now, 1)
				}
			}
		}
	}
}

// Rule 8: what is answered hangs on what is handed in now, and on no call ahead of it.
func TestNothingIsKept(t *testing.T) {
	for _, a := range edges {
		for _, b := range edges {
			clock.Tick(a, b)
			clock.Fresh(a, b, 5)
			clock.Over(a, b, 5)
			if clock.Tick(3, 4) != 7 || !clock.Fresh(5, 3, 2) || clock.Fresh(6, 3, 2) || !clock.Over(6, 3, 2) || clock.Over(5, 3, 2) {
				t.Fatal(a, b)
			}
		}
	}
}
