package runs_test

import (
	"math"
	"slices"
	"testing"

	"chamberlain/api"
	"chamberlain/runs"
)

type row = []api.Run

// run answers a run of a protocol, a role and a state, whose words are all made of one number.
func run(proto, role, state int, w uint32) api.Run {
	return api.Run{Proto: proto, Role: role, Peer: w, Mine: w + 1, Their: w ^ 2, M: w * 3, K: ^w, T: w + 5, State: state}
}

// kinds answers a run of every protocol, role and state that there are, whose words tell one from the other.
func kinds() row {
	var l row
	for proto := api.ProtoNS; proto <= api.ProtoOR; proto++ {
		for role := api.RoleA; role <= api.RoleB; role++ {
			for state := api.Waiting; state <= api.Done; state++ {
				l = append(l, run(proto, role, state, uint32(len(l)+1)))
			}
		}
	}
	return l
}

// strange answers runs that may not be: but for one of its numbers, or for several, each is one that may.
func strange() row {
	var l row
	for _, n := range append(beyond(), 3) {
		l = append(l, run(n, 1, 1, 7), run(n, 2, 3, 7), run(1, n, 1, 7), run(2, n, 2, 7), run(n, n, 1, 7))
		if n != 3 {
			l = append(l, run(1, 1, n, 7), run(2, 2, n, 7), run(n, n, n, 7))
		}
	}
	return append(l, api.Run{}, api.Run{Proto: 1}, api.Run{Role: 1}, api.Run{State: 1}, api.Run{Proto: 1, Role: 1}, api.Run{Proto: 1, State: 1}, api.Run{Role: 1, State: 1})
}

// beyond answers numbers that are no protocol, no role and no state: about those that are, and such as would be taken for them if they were cut.
func beyond() []int {
	l := []int{-3, -2, -1, 0, 4, 5, math.MinInt, math.MinInt32, math.MaxInt32, math.MaxInt}
	for n := 1; n <= 3; n++ {
		for _, bits := range []int{2, 3, 4, 8, 16, 31, 32, 63} {
			l = append(l, n+1<<bits, n-1<<bits)
		}
	}
	return slices.DeleteFunc(l, func(n int) bool { return n >= 1 && n <= 3 })
}

// many answers so many runs that may be, no two of them the same.
func many(count int) row {
	var l row
	for i := range count {
		l = append(l, run(1+i%2, 1+i/2%2, 1+i/3%3, uint32(i)*2654435761))
	}
	return l
}

// allRows answers every row of at most n of these runs; each run's place in it stands as its T.
func allRows(n int, of row) []row {
	all := []row{nil}
	for last := all; n > 0; n-- {
		var longer []row
		for _, l := range last {
			for _, r := range of {
				r.T = uint32(len(l))
				longer = append(longer, append(slices.Clone(l), r))
			}
		}
		all = append(all, longer...)
		last = longer
	}
	return all
}

// about answers numbers far below 0, about 0, about a number, and far above it.
func about(n int) []int {
	l := []int{math.MinInt, math.MinInt + 1, math.MinInt + n, math.MinInt32, -65, math.MaxInt32, math.MaxInt - n, math.MaxInt - 1, math.MaxInt}
	for by := -2; by <= 2; by++ {
		l = append(l, by, n+by)
	}
	return l
}

// may, right, added, next and set tell the chapter's words anew; what is answered is new memory.
func may(r api.Run) bool {
	if r.Proto != 1 && r.Proto != 2 {
		return false
	}
	return (r.Role == 1 || r.Role == 2) && (r.State == 1 || r.State == 2 || r.State == 3)
}

func right(l row, room int) bool {
	for _, r := range l {
		if !may(r) {
			return false
		}
	}
	return len(l) <= room
}

func added(l row, room int, r api.Run) (row, api.Errno) {
	if !may(r) {
		return slices.Clone(l), api.ErrArg
	}
	if len(l) == room {
		return slices.Clone(l), api.ErrFull
	}
	return append(slices.Clone(l), r), api.OK
}

func next(l row, from, proto, role, state int) (int, bool) {
	for i, r := range l {
		if i >= from && r.Proto == proto && r.Role == role && r.State == state {
			return i, true
		}
	}
	return 0, false
}

func set(l row, i int, r api.Run) (row, api.Errno) {
	n := slices.Clone(l)
	for at := range n {
		if at == i && may(r) {
			n[at] = r
			return n, api.OK
		}
	}
	return n, api.ErrArg
}

// checkAdd holds Add of a right row against the chapter's words.
func checkAdd(t *testing.T, l row, room int, r api.Run) row {
	t.Helper()
	was := slices.Clone(l)
	want, we := added(was, room, r)
	n, e := runs.Add(l, room, r)
	if e != we || !slices.Equal(n, want) {
		t.Fatalf("Add(%v, %d, %v) = %v, %d, want %v, %d", was, room, r, n, e, want, we)
	}
	if !slices.Equal(l, was) {
		t.Fatalf("changed: %v, was %v", l, was)
	}
	return n
}

// checkSet holds Set of a right row against the chapter's words.
func checkSet(t *testing.T, l row, i int, r api.Run) row {
	t.Helper()
	was := slices.Clone(l)
	want, we := set(was, i, r)
	n, e := runs.Set(l, i, r)
	if e != we || !slices.Equal(n, want) {
		t.Fatalf("Set(%v, %d, %v) = %v, %d, want %v, %d", was, i, r, n, e, want, we)
	}
	if !slices.Equal(l, was) {
		t.Fatalf("changed: %v, was %v", l, was)
	}
	return n
}

// checkNext holds Next of a right row against the chapter's words.
func checkNext(t *testing.T, l row, from, proto, role, state int) {
	t.Helper()
	was := slices.Clone(l)
	want, wok := next(was, from, proto, role, state)
	if at, ok := runs.Next(l, from, proto, role, state); at != want || ok != wok {
		t.Fatalf("Next(%v, %d, %d, %d, %d) = %d, %v, want %d, %v", was, from, proto, role, state, at, ok, want, wok)
	}
	if !slices.Equal(l, was) {
		t.Fatalf("changed: %v, was %v", l, was)
	}
}

// checkAllNext holds Next against the chapter's words from all places about a row's, for all that may be looked for, and for some of what no run may have.
func checkAllNext(t *testing.T, l row) {
	t.Helper()
	for _, from := range append(about(len(l)), 0, 1, 2, 3, 4) {
		for proto := -1; proto <= 4; proto++ {
			for role := -1; role <= 4; role++ {
				for state := -1; state <= 5; state++ {
					checkNext(t, l, from, proto, role, state)
				}
			}
		}
	}
}

// P9.1: May of all numbers about those that there are.
func TestMayOfAllNumbers(t *testing.T) {
	count := 0
	for proto := -4; proto <= 20; proto++ {
		for role := -4; role <= 20; role++ {
			for state := -4; state <= 20; state++ {
				got := runs.May(run(proto, role, state, 9))
				if want := proto >= 1 && proto <= 2 && role >= 1 && role <= 2 && state >= 1 && state <= 3; got != want {
					t.Fatalf("May of %d, %d, %d: %v", proto, role, state, got)
				}
				if got {
					count++
				}
			}
		}
	}
	if count != 12 {
		t.Error(count)
	}
}

// P9.1: the runs that may be are those of api's numbers, and these are what the chapter says.
func TestMayOfTheNames(t *testing.T) {
	if api.ProtoNS != 1 || api.ProtoOR != 2 || api.RoleA != 1 || api.RoleB != 2 || api.Waiting != 1 || api.Running != 2 || api.Done != 3 {
		t.Error("api's numbers are others")
	}
	for _, r := range kinds() {
		if !runs.May(r) {
			t.Error(r, "may not be")
		}
	}
	for _, r := range strange() {
		if runs.May(r) {
			t.Error(r, "may be")
		}
	}
}

// P9.1: what else a run has doesn't count, whether it may be or not.
func TestOtherFieldsDontCount(t *testing.T) {
	for _, w := range []uint32{0, 1, 2, 3, 4, 255, 256, math.MaxInt32, 1 << 31, math.MaxUint32 - 1, math.MaxUint32} {
		for _, r := range slices.Concat(kinds(), strange()) {
			for _, x := range []api.Run{
				{}, {Peer: w}, {Mine: w}, {Their: w}, {M: w}, {K: w}, {T: w}, {Peer: w, Mine: w, Their: w, M: w, K: w, T: w},
			} {
				x.Proto, x.Role, x.State = r.Proto, r.Role, r.State
				if got := runs.May(x); got != may(r) {
					t.Fatal(x, got)
				}
				if got := runs.Right(row{x}, 1); got != may(r) {
					t.Fatal(x, got)
				}
				at, ok := runs.Next(row{x}, 0, r.Proto, r.Role, r.State)
				if may(r) && (at != 0 || !ok) {
					t.Fatal(x, at, ok)
				}
			}
		}
	}
}

// P9.1: Right, written out: no more runs than the room, and each may be.
func TestRightWrittenOut(t *testing.T) {
	good, other, bad := run(1, 1, 1, 0), run(2, 2, 3, 9), run(1, 1, 4, 0)
	for _, x := range []struct {
		l    row
		room int
		want bool
	}{
		{nil, 0, true}, {row{}, 0, true}, {nil, 1, true}, {row{}, 1, true}, {nil, 64, true}, {nil, 65, true}, {nil, math.MaxInt, true}, {row{}, math.MaxInt, true},
		{nil, -1, false}, {row{}, -1, false}, {nil, -64, false}, {nil, math.MinInt32, false}, {nil, math.MinInt, false}, {row{}, math.MinInt, false},
		{row{good}, -1, false}, {row{good}, 0, false}, {row{good}, 1, true}, {row{good}, 2, true}, {row{good}, 64, true}, {row{good}, math.MaxInt, true}, {row{good}, math.MinInt, false},
		{row{other}, 0, false}, {row{other}, 1, true}, {row{bad}, 0, false}, {row{bad}, 1, false}, {row{bad}, 2, false}, {row{bad}, math.MaxInt, false}, {row{{}}, 1, false}, {row{{}}, 9, false},
		{row{good, other}, -2, false}, {row{good, other}, 0, false}, {row{good, other}, 1, false}, {row{good, other}, 2, true}, {row{good, other}, 3, true}, {row{other, good}, 2, true},
		{row{good, good}, 2, true}, {row{good, good}, 1, false}, {row{other, other, other}, 3, true}, {row{other, other, other}, 4, true}, {row{other, other, other}, 2, false},
		{row{good, bad}, 2, false}, {row{bad, good}, 2, false}, {row{bad, bad}, 2, false}, {row{good, bad}, 9, false}, {row{bad, good}, 9, false}, {row{bad, good}, 1, false},
		{row{good, bad, good}, 3, false}, {row{bad, good, good}, 3, false}, {row{good, good, bad}, 3, false}, {row{good, good, bad}, 64, false}, {row{good, good, {}}, 64, false},
	} {
		if got := runs.Right(x.l, x.room); got != x.want {
			t.Errorf("Right(%v, %d) = %v", x.l, x.room, got)
		}
	}
}

// P9.1: Right of all short rows of a few runs, some of which may not be, with rooms about their length and far from it.
func TestRightOfAllShortRows(t *testing.T) {
	for _, l := range allRows(5, row{run(1, 1, 1, 0), run(2, 2, 3, 0), run(1, 2, 0, 0), run(3, 1, 2, 0)}) {
		for _, room := range about(len(l)) {
			if got := runs.Right(l, room); got != right(l, room) {
				t.Fatalf("Right(%v, %d) = %v", l, room, got)
			}
		}
	}
}

// P9.1: Right of rows whose runs all may be, of all lengths up to some beyond 64, with all rooms about those.
func TestRightOfLongRows(t *testing.T) {
	for n := range 70 {
		l := many(n)
		for room := -3; room <= 72; room++ {
			if got := runs.Right(l, room); got != (n <= room) {
				t.Errorf("Right of %d runs, room %d: %v", n, room, got)
			}
		}
	}
	for _, n := range []int{100, 255, 256, 257, 1000, 3000} {
		for room := n - 2; room <= n+2; room++ {
			if got := runs.Right(many(n), room); got != (n <= room) {
				t.Errorf("Right of %d runs, room %d: %v", n, room, got)
			}
		}
	}
}

// P9.1: a row isn't right with one run that may not be, at whatever place, and however great the room.
func TestOneThatMayNotBe(t *testing.T) {
	for _, n := range []int{1, 2, 3, 7, 64, 65} {
		for i := range n {
			l := many(n)
			for _, r := range strange() {
				l[i] = r
				for _, room := range []int{n, n + 1, math.MaxInt} {
					if runs.Right(l, room) {
						t.Fatal(n, i, r, room, "is right")
					}
				}
			}
			l[i] = run(2, 2, 2, 0)
			if !runs.Right(l, n) {
				t.Fatal(n, i, "isn't right")
			}
		}
	}
}

// P9.1, P9.2: the chapter's example.
func TestExample(t *testing.T) {
	a := run(api.ProtoNS, api.RoleA, api.Waiting, 5)
	l, e := runs.Add(nil, 2, a)
	if e != api.OK || !slices.Equal(l, row{a}) {
		t.Error(l, e)
	}
	if l, e = runs.Add(l, 2, a); e != api.OK || !slices.Equal(l, row{a, a}) {
		t.Error(l, e)
	}
	for from, want := range []int{0, 1, 0} {
		if at, ok := runs.Next(l, from, api.ProtoNS, api.RoleA, api.Waiting); at != want || ok != (from < 2) {
			t.Error(from, at, ok)
		}
	}
}

// P9.1: Add, written out; of a run that may not be, and a row that is full, ErrArg is told.
func TestAddWrittenOut(t *testing.T) {
	one, two, three, bad := run(1, 1, 1, 0), run(2, 2, 3, 9), run(1, 2, 2, math.MaxUint32), run(1, 1, 0, 4)
	for _, x := range []struct {
		l    row
		room int
		r    api.Run
		want row
		e    api.Errno
	}{
		{nil, 0, one, nil, api.ErrFull}, {row{}, 0, one, nil, api.ErrFull}, {nil, 0, bad, nil, api.ErrArg}, {row{}, 0, bad, nil, api.ErrArg}, {nil, 0, api.Run{}, nil, api.ErrArg},
		{nil, 1, one, row{one}, api.OK}, {row{}, 1, one, row{one}, api.OK}, {nil, 1, bad, nil, api.ErrArg}, {row{}, 1, bad, nil, api.ErrArg}, {nil, 1, two, row{two}, api.OK},
		{nil, 64, three, row{three}, api.OK}, {row{}, 64, three, row{three}, api.OK}, {nil, math.MaxInt, one, row{one}, api.OK}, {nil, math.MaxInt, bad, nil, api.ErrArg},
		{row{one}, 1, two, row{one}, api.ErrFull}, {row{one}, 1, one, row{one}, api.ErrFull}, {row{one}, 1, bad, row{one}, api.ErrArg}, {row{one}, 1, api.Run{}, row{one}, api.ErrArg},
		{row{one}, 2, two, row{one, two}, api.OK}, {row{one}, 2, one, row{one, one}, api.OK}, {row{two}, 2, one, row{two, one}, api.OK}, {row{one}, 2, bad, row{one}, api.ErrArg},
		{row{one}, 3, two, row{one, two}, api.OK}, {row{one}, math.MaxInt, two, row{one, two}, api.OK}, {row{one}, math.MaxInt, bad, row{one}, api.ErrArg},
		{row{one, two}, 2, three, row{one, two}, api.ErrFull}, {row{one, two}, 2, bad, row{one, two}, api.ErrArg}, {row{one, two}, 3, bad, row{one, two}, api.ErrArg},
		{row{one, two}, 3, three, row{one, two, three}, api.OK}, {row{two, one}, 3, three, row{two, one, three}, api.OK}, {row{one, one}, 9, one, row{one, one, one}, api.OK},
	} {
		if l, e := runs.Add(x.l, x.room, x.r); e != x.e || !slices.Equal(l, x.want) {
			t.Errorf("Add(%v, %d, %v) = %v, %d, want %v, %d", x.l, x.room, x.r, l, e, x.want, x.e)
		}
	}
}

// P9.1: Set, written out: all other runs stay as they were.
func TestSetWrittenOut(t *testing.T) {
	one, two, three, bad := run(1, 1, 1, 0), run(2, 2, 3, 9), run(1, 2, 2, math.MaxUint32), run(1, 1, 0, 4)
	for _, x := range []struct {
		l    row
		i    int
		r    api.Run
		want row
		e    api.Errno
	}{
		{nil, 0, one, nil, api.ErrArg}, {row{}, 0, one, nil, api.ErrArg}, {nil, -1, one, nil, api.ErrArg}, {row{}, 1, one, nil, api.ErrArg}, {nil, 0, bad, nil, api.ErrArg},
		{nil, math.MinInt, one, nil, api.ErrArg}, {nil, math.MaxInt, one, nil, api.ErrArg},
		{row{one}, 0, two, row{two}, api.OK}, {row{one}, 0, one, row{one}, api.OK}, {row{one}, 0, bad, row{one}, api.ErrArg}, {row{one}, 0, api.Run{}, row{one}, api.ErrArg},
		{row{one}, -1, two, row{one}, api.ErrArg}, {row{one}, 1, two, row{one}, api.ErrArg}, {row{one}, 2, two, row{one}, api.ErrArg}, {row{one}, 1, bad, row{one}, api.ErrArg}, {row{one}, -1, bad, row{one}, api.ErrArg},
		{row{one}, math.MinInt, two, row{one}, api.ErrArg}, {row{one}, math.MaxInt, two, row{one}, api.ErrArg}, {row{one}, 1 << 32, two, row{one}, api.ErrArg}, {row{one}, -1 << 32, two, row{one}, api.ErrArg}, {row{one}, 256, two, row{one}, api.ErrArg},
		{row{one, two}, 0, three, row{three, two}, api.OK}, {row{one, two}, 1, three, row{one, three}, api.OK}, {row{one, two}, 2, three, row{one, two}, api.ErrArg}, {row{one, two}, -1, three, row{one, two}, api.ErrArg}, {row{one, two}, -2, three, row{one, two}, api.ErrArg},
		{row{one, one}, 0, two, row{two, one}, api.OK}, {row{one, one}, 1, two, row{one, two}, api.OK},
		{row{one, two, three}, 0, one, row{one, two, three}, api.OK}, {row{one, two, three}, 0, two, row{two, two, three}, api.OK}, {row{one, two, three}, 1, three, row{one, three, three}, api.OK}, {row{one, two, three}, 2, one, row{one, two, one}, api.OK},
		{row{one, two, three}, 3, one, row{one, two, three}, api.ErrArg}, {row{one, two, three}, 4, one, row{one, two, three}, api.ErrArg}, {row{one, two, three}, 1, bad, row{one, two, three}, api.ErrArg}, {row{one, two, three}, 2, bad, row{one, two, three}, api.ErrArg},
	} {
		if l, e := runs.Set(x.l, x.i, x.r); e != x.e || !slices.Equal(l, x.want) {
			t.Errorf("Set(%v, %d, %v) = %v, %d, want %v, %d", x.l, x.i, x.r, l, e, x.want, x.e)
		}
	}
}

// P9.1: Add and Set of all short rows, of runs that may be and of such as may not, with each room, and at all places about the row's.
func TestAllShortRows(t *testing.T) {
	all := slices.Concat(kinds(), strange())
	for _, l := range allRows(3, kinds()[3:8]) {
		for _, n := range about(len(l)) {
			for _, r := range all {
				if right(l, n) {
					checkAdd(t, l, n, r)
				}
				checkSet(t, l, n, r)
			}
		}
	}
}

// P9.1: a row is filled up to its room, and no further; a run that may not be is told so, full or not.
func TestFilledUpToItsRoom(t *testing.T) {
	for room := range 70 {
		var l row
		all := many(room + 1)
		for i, r := range all[:room] {
			if l = checkAdd(t, l, room, r); !slices.Equal(l, all[:i+1]) || !runs.Right(l, room) || runs.Right(l, i) {
				t.Fatal(room, i, l)
			}
			if n, e := runs.Add(l, room, api.Run{Proto: 1, Role: 1}); e != api.ErrArg || !slices.Equal(n, all[:i+1]) {
				t.Fatal(room, i, n, e)
			}
		}
		if n, e := runs.Add(l, room, all[room]); e != api.ErrFull || !slices.Equal(n, all[:room]) {
			t.Fatal(room, n, e)
		}
		if n, e := runs.Add(l, room, api.Run{Proto: 1, Role: 1}); e != api.ErrArg || !slices.Equal(n, all[:room]) {
			t.Fatal(room, n, e)
		}
		// With more room the same row goes on.
		if n, e := runs.Add(l, room+1, all[room]); e != api.OK || !slices.Equal(n, all) {
			t.Fatal(room, n, e)
		}
	}
}

// P9.1: Set at each place of rows of all lengths changes that run, whole, and no other one; a full row is set too.
func TestSetLeavesTheOthers(t *testing.T) {
	for n := range 70 {
		all := many(n)
		for i := range n {
			r := run(1+(i+1)%2, 1+(i/2+1)%2, 1+(i+1)%3, 1<<31+uint32(i))
			l := checkSet(t, all, i, r)
			if l[i] != r || !slices.Equal(l[:i], all[:i]) || !slices.Equal(l[i+1:], all[i+1:]) || len(l) != n || !runs.Right(l, n) {
				t.Fatal(n, i, l)
			}
		}
	}
}

// P9.1: a run that is set differs from the one that stood there in one field alone, whichever: it is set whole.
func TestSetIsWhole(t *testing.T) {
	was := run(1, 1, 1, 40)
	for i, change := range []func(*api.Run){
		func(r *api.Run) { r.Proto = 2 }, func(r *api.Run) { r.Role = 2 }, func(r *api.Run) { r.Peer = 0 }, func(r *api.Run) { r.Mine = 0 }, func(r *api.Run) { r.Their = 0 },
		func(r *api.Run) { r.M = 0 }, func(r *api.Run) { r.K = 0 }, func(r *api.Run) { r.T = 0 }, func(r *api.Run) { r.State = 2 }, func(r *api.Run) { *r = api.Run{Proto: 1, Role: 1, State: 1} },
	} {
		r := was
		change(&r)
		if l, e := runs.Set(row{was, was, was}, 1, r); e != api.OK || r == was || !slices.Equal(l, row{was, r, was}) {
			t.Error(i, l, e)
		}
		if l, e := runs.Add(row{was}, 2, r); e != api.OK || !slices.Equal(l, row{was, r}) {
			t.Error(i, l, e)
		}
	}
}

// P9.2: Next, written out: the least place, not below from, nor below 0.
func TestNextWrittenOut(t *testing.T) {
	l := row{run(1, 1, 1, 0), run(1, 2, 1, 1), run(1, 1, 1, 2), run(2, 1, 1, 3), run(1, 1, 2, 4), run(1, 1, 1, 5), run(2, 2, 3, 6)}
	for _, x := range []struct {
		from, proto, role, state, at int
		ok                           bool
	}{
		{0, 1, 1, 1, 0, true}, {1, 1, 1, 1, 2, true}, {2, 1, 1, 1, 2, true}, {3, 1, 1, 1, 5, true}, {4, 1, 1, 1, 5, true}, {5, 1, 1, 1, 5, true}, {6, 1, 1, 1, 0, false}, {7, 1, 1, 1, 0, false},
		{-1, 1, 1, 1, 0, true}, {-2, 1, 1, 1, 0, true}, {-7, 1, 1, 1, 0, true}, {-8, 1, 1, 1, 0, true}, {math.MinInt32, 1, 1, 1, 0, true}, {math.MinInt, 1, 1, 1, 0, true},
		{8, 1, 1, 1, 0, false}, {99, 1, 1, 1, 0, false}, {1 << 32, 1, 1, 1, 0, false}, {math.MaxInt32, 1, 1, 1, 0, false}, {math.MaxInt - 6, 1, 1, 1, 0, false}, {math.MaxInt, 1, 1, 1, 0, false},
		{0, 1, 2, 1, 1, true}, {1, 1, 2, 1, 1, true}, {2, 1, 2, 1, 0, false}, {-1, 1, 2, 1, 1, true}, {math.MinInt, 1, 2, 1, 1, true}, {math.MinInt + 7, 1, 2, 1, 1, true},
		{0, 2, 1, 1, 3, true}, {3, 2, 1, 1, 3, true}, {4, 2, 1, 1, 0, false}, {0, 1, 1, 2, 4, true}, {4, 1, 1, 2, 4, true}, {5, 1, 1, 2, 0, false},
		{0, 2, 2, 3, 6, true}, {5, 2, 2, 3, 6, true}, {6, 2, 2, 3, 6, true}, {7, 2, 2, 3, 0, false}, {-7, 2, 2, 3, 6, true}, {math.MinInt, 2, 2, 3, 6, true}, {math.MaxInt, 2, 2, 3, 0, false},
		{0, 1, 1, 3, 0, false}, {0, 1, 2, 2, 0, false}, {0, 1, 2, 3, 0, false}, {0, 2, 1, 2, 0, false}, {0, 2, 1, 3, 0, false}, {0, 2, 2, 1, 0, false}, {0, 2, 2, 2, 0, false}, {-9, 2, 2, 2, 0, false}, {6, 2, 2, 2, 0, false},
		{0, 0, 1, 1, 0, false}, {0, 3, 1, 1, 0, false}, {0, -1, 1, 1, 0, false}, {0, 1, 0, 1, 0, false}, {0, 1, 3, 1, 0, false}, {0, 1, -1, 1, 0, false}, {0, 1, 1, 0, 0, false}, {0, 1, 1, 4, 0, false}, {0, 1, 1, -1, 0, false}, {0, 0, 0, 0, 0, false}, {3, 0, 0, 0, 0, false},
	} {
		if at, ok := runs.Next(l, x.from, x.proto, x.role, x.state); at != x.at || ok != x.ok {
			t.Errorf("Next from %d of %d, %d, %d = %d, %v, want %d, %v", x.from, x.proto, x.role, x.state, at, ok, x.at, x.ok)
		}
	}
}

// P9.2: in a row without runs, nil or empty, nothing is found, from whatever place.
func TestNextInARowWithoutRuns(t *testing.T) {
	for _, l := range []row{nil, {}, many(5)[:0]} {
		for _, from := range about(0) {
			for _, r := range kinds() {
				if at, ok := runs.Next(l, from, r.Proto, r.Role, r.State); at != 0 || ok {
					t.Fatal(from, at, ok)
				}
			}
		}
		for _, i := range about(0) {
			if n, e := runs.Set(l, i, run(1, 1, 1, 0)); e != api.ErrArg || len(n) != 0 {
				t.Fatal(i, n, e)
			}
		}
	}
}

// P9.2: Next in all short rows of all runs that there are, and in longer ones of a few.
func TestNextInAllShortRows(t *testing.T) {
	for _, l := range allRows(2, kinds()) {
		checkAllNext(t, l)
	}
	few := row{run(1, 1, 1, 0), run(1, 1, 2, 0), run(2, 2, 1, 0)}
	for _, l := range allRows(6, few) {
		for from := -2; from <= len(l)+2; from++ {
			for _, r := range append(few, run(2, 1, 1, 0)) {
				checkNext(t, l, from, r.Proto, r.Role, r.State)
			}
		}
	}
}

// P9.2: what no run may have isn't found, wherever it is looked for, even where the other two are there.
func TestNextOfWhatNoRunMayHave(t *testing.T) {
	l := slices.Concat(kinds(), kinds())
	for _, n := range append(beyond(), 3) {
		for from := -1; from <= len(l); from++ {
			for _, r := range kinds() {
				checkNext(t, l, from, n, r.Role, r.State)
				checkNext(t, l, from, r.Proto, n, r.State)
				if n != 3 {
					checkNext(t, l, from, r.Proto, r.Role, n)
				}
				if at, ok := runs.Next(l, from, n, r.Role, r.State); at != 0 || ok {
					t.Fatal(n, from, r, at, ok)
				}
				if at, ok := runs.Next(l, from, r.Proto, n, r.State); at != 0 || ok {
					t.Fatal(n, from, r, at, ok)
				}
			}
		}
	}
}

// P9.2: a run that stands alone of its kind is found at its place, from each place up to it, and from none behind it.
func TestNextFindsTheOne(t *testing.T) {
	for _, n := range []int{1, 2, 3, 7, 64, 65, 300} {
		for i := range n {
			if n == 300 && i%37 != 0 && i != 299 {
				continue
			}
			for _, r := range kinds() {
				l := make(row, n)
				for at := range l {
					// A kind that differs in one number alone, in this one or in that.
					l[at] = []api.Run{run(3-r.Proto, r.Role, r.State, 0), run(r.Proto, 3-r.Role, r.State, 0), run(r.Proto, r.Role, r.State%3+1, 0)}[at%3]
				}
				l[i] = r
				for _, from := range append(about(i), 0, i-1, i, i+1, n-1, n, n+1) {
					at, ok := runs.Next(l, from, r.Proto, r.Role, r.State)
					if ok != (from <= i) || ok && at != i || !ok && at != 0 {
						t.Fatal(n, i, r, from, at, ok)
					}
				}
			}
		}
	}
}

// P9.2: gone through by Next from place to place, each run of a kind comes once, in order.
func TestNextFromPlaceToPlace(t *testing.T) {
	l := many(200)
	for _, r := range kinds() {
		var want, got []int
		for i, x := range l {
			if x.Proto == r.Proto && x.Role == r.Role && x.State == r.State {
				want = append(want, i)
			}
		}
		for at, ok := runs.Next(l, 0, r.Proto, r.Role, r.State); ok; at, ok = runs.Next(l, at+1, r.Proto, r.Role, r.State) {
			if got = append(got, at); len(got) > len(l) {
				t.Fatal("it doesn't go on")
			}
		}
		if !slices.Equal(got, want) {
			t.Error(r, got, want)
		}
	}
}

// P9.1, P9.2: many steps, by which a row gets full, and is changed; each held against the chapter's words.
func TestManySteps(t *testing.T) {
	for _, room := range []int{0, 1, 2, 7, 63, 64, 65, 300} {
		var l row
		state, told := uint32(1), map[api.Errno]int{}
		draw := func(n int) int {
			state = state*1664525 + 1013904223
			return int(state>>8) % n
		}
		for range 2000 {
			r := run(draw(3), 1+draw(2), 1+draw(3), state)
			i := draw(room+3) - 1
			_, e := runs.Add(l, room, r)
			told[e]++
			if draw(2) == 0 {
				l = checkAdd(t, l, room, r)
			} else {
				l = checkSet(t, l, i, r)
			}
			if !runs.Right(l, room) {
				t.Fatal(room, l, "isn't right")
			}
			checkNext(t, l, i, 1+draw(2), 1+draw(2), 1+draw(3))
		}
		if told[api.ErrArg] == 0 || told[api.ErrFull] == 0 || len(told) > 3 || len(l) != room {
			t.Error("room", room, told, len(l))
		}
	}
}

// P9.1, P9.2: what stands in the room behind a row's length, or ahead of it, isn't its runs.
func TestRoomBehindIsNoRuns(t *testing.T) {
	one, two := run(1, 1, 1, 0), run(2, 2, 2, 9)
	whole := row{two, one, one, two, {}, one}
	l := whole[1:3]
	if !runs.Right(l, 2) || runs.Right(l, 1) || !runs.Right(whole[:4], 4) || runs.Right(whole[:5], 9) || runs.Right(whole, 9) || !runs.Right(whole[5:], 1) {
		t.Error("Right looks behind the length, or ahead of the row")
	}
	for from := -2; from <= 6; from++ {
		if at, ok := runs.Next(l, from, 2, 2, 2); at != 0 || ok {
			t.Error(from, at, ok)
		}
	}
	for _, i := range []int{-1, 2, 3, 4} {
		if n, e := runs.Set(l, i, two); e != api.ErrArg || !slices.Equal(n, row{one, one}) {
			t.Error(i, n, e)
		}
	}
	if n, e := runs.Add(l, 3, one); e != api.OK || !slices.Equal(n, row{one, one, one}) {
		t.Error(n, e)
	}
	if n, e := runs.Add(l, 2, one); e != api.ErrFull || !slices.Equal(n, row{one, one}) {
		t.Error(n, e)
	}
	if !runs.Right(whole[:0], 0) {
		t.Error("a row without runs has those behind it")
	}
	if n, e := runs.Add(whole[:0], 1, one); e != api.OK || !slices.Equal(n, row{one}) {
		t.Error(n, e)
	}
}

// fill fills a row, and the room behind its length.
func fill(l row) {
	for i := range l[:cap(l)] {
		l[:cap(l)][i] = run(77, 77, 77, 77)
	}
}

// P9.3: no call changes a row, nor what stands around it and in the room behind its length; nor does a write into what was answered.
func TestHandedInStays(t *testing.T) {
	for n := range 20 {
		was := many(n + 6)
		whole := slices.Clone(was)
		l := whole[2 : 2+n]
		for _, x := range about(n) {
			runs.Right(l, x)
			for _, r := range append(kinds(), api.Run{}, run(1, 1, 4, 0)) {
				runs.May(r)
				runs.Next(l, x, r.Proto, r.Role, r.State)
				if m, e := runs.Add(l, max(x, n), r); e == api.OK {
					fill(m)
				}
				if m, e := runs.Set(l, x, r); e == api.OK {
					fill(m)
				}
				if !slices.Equal(whole, was) {
					t.Fatal(n, x, r, whole)
				}
			}
		}
		runs.Right(append(whole, api.Run{}), n+9)
		if !slices.Equal(whole, was) {
			t.Fatal(n, whole)
		}
	}
}

// P9.3: what Add answers is new memory: a write into the row that was handed in, or into another answer, isn't seen there.
func TestAddedIsNewMemory(t *testing.T) {
	r := run(2, 1, 2, 5)
	for n := range 20 {
		for _, behind := range []int{0, 1, 8} {
			whole := many(n + behind)
			l := whole[:n]
			one, _ := runs.Add(l, n+1, r)
			two, e := runs.Add(l, n+1, r)
			fill(one)
			if want := append(many(n), r); e != api.OK || !slices.Equal(two, want) {
				t.Fatal(n, behind, "a write into one answer is seen in another one", two, e)
			}
			fill(whole)
			if want := append(many(n), r); !slices.Equal(two, want) {
				t.Fatal(n, behind, "a write into the row that was handed in is seen", two)
			}
		}
	}
}

// P9.3: and so is what Set answers, even if the run that is set stood there already.
func TestSetIsNewMemory(t *testing.T) {
	for n := 1; n < 20; n++ {
		for i := range n {
			for _, behind := range []int{0, 1, 8} {
				for _, r := range []api.Run{run(2, 1, 2, 5), many(n)[i]} {
					whole := many(n + behind)
					l := whole[:n]
					want := many(n)
					want[i] = r
					one, _ := runs.Set(l, i, r)
					two, e := runs.Set(l, i, r)
					fill(one)
					if e != api.OK || !slices.Equal(two, want) {
						t.Fatal(n, i, behind, "a write into one answer is seen in another one", two, e)
					}
					fill(whole)
					if !slices.Equal(two, want) {
						t.Fatal(n, i, behind, "a write into the row that was handed in is seen", two)
					}
				}
			}
		}
	}
}

// P9.3: a row that is refused comes back with its runs, and those alone; later changes of it write into none of its memory.
func TestRefusedRowStays(t *testing.T) {
	whole := many(8)
	good, bad := run(1, 2, 3, 1), run(1, 2, 4, 1)
	for i, refuse := range []func(row) (row, api.Errno){
		func(l row) (row, api.Errno) { return runs.Add(l, 5, bad) },
		func(l row) (row, api.Errno) { return runs.Add(l, 9, bad) },
		func(l row) (row, api.Errno) { return runs.Add(l, 5, good) },
		func(l row) (row, api.Errno) { return runs.Set(l, 0, bad) },
		func(l row) (row, api.Errno) { return runs.Set(l, 4, bad) },
		func(l row) (row, api.Errno) { return runs.Set(l, 5, good) },
		func(l row) (row, api.Errno) { return runs.Set(l, -1, good) },
	} {
		l, e := refuse(whole[:5])
		if e == api.OK || !slices.Equal(l, many(8)[:5]) {
			t.Error(i, l, e)
		}
		if n, e := runs.Add(l, 9, good); e != api.OK || !slices.Equal(n, append(many(8)[:5], good)) || !slices.Equal(whole, many(8)) {
			t.Error(i, n, e, whole)
		}
		if n, e := runs.Set(l, 0, good); e != api.OK || n[0] != good || !slices.Equal(n[1:], many(8)[1:5]) || !slices.Equal(whole, many(8)) {
			t.Error(i, n, e, whole)
		}
		for _, none := range []row{nil, {}} {
			if n, e := refuse(none); e != api.OK && len(n) != 0 {
				t.Error(i, n, e)
			}
		}
	}
}

// P9.3: rows that are made of one row share no room behind them: each goes on by itself.
func TestAnswersGoOnApart(t *testing.T) {
	var l row
	all := many(40)
	var x [6]api.Run
	for i := range x {
		x[i] = run(1, 1, 1, uint32(i)+90)
	}
	// Added one by one, so that the row has whatever room behind it that it gets by growing.
	for i, r := range all {
		one, _ := runs.Add(l, 64, x[1])
		two, _ := runs.Add(l, 64, x[2])
		three, _ := runs.Add(one, 64, x[3])
		four, _ := runs.Add(one, 64, x[4])
		five, _ := runs.Set(one, i, x[5])
		six, _ := runs.Add(five, 64, x[0])
		if !slices.Equal(one, append(many(i), x[1])) || !slices.Equal(two, append(many(i), x[2])) || !slices.Equal(five, append(many(i), x[5])) {
			t.Fatal(i, one, two, five)
		}
		if !slices.Equal(three, append(many(i), x[1], x[3])) || !slices.Equal(four, append(many(i), x[1], x[4])) || !slices.Equal(six, append(many(i), x[5], x[0])) || !slices.Equal(l, all[:i]) {
			t.Fatal(i, three, four, six, l)
		}
		l, _ = runs.Add(l, 64, r)
	}
}

// Rule 8: what is answered hangs on what is handed in now, and on no call ahead of it.
func TestNothingIsKept(t *testing.T) {
	for _, one := range []row{nil, many(3), many(64)} {
		for _, other := range []row{nil, kinds()[:1], kinds()[2:4]} {
			runs.Add(one, 64, run(1, 1, 1, 4))
			runs.Add(one, 70, api.Run{})
			runs.Set(one, 0, run(2, 2, 2, 5))
			runs.Next(one, 2, 1, 1, 1)
			runs.Right(one, 3)
			runs.Right(append(slices.Clone(one), api.Run{}), 70)
			for _, r := range append(kinds(), api.Run{}) {
				checkAdd(t, other, len(other), r)
				checkAdd(t, other, 5, r)
				checkSet(t, other, 0, r)
				checkNext(t, other, 0, r.Proto, r.Role, r.State)
			}
		}
	}
}

// P1 of all layers: calls end, and don't panic, at rows and rooms too of which nothing is promised.
func TestEveryCallEnds(t *testing.T) {
	for _, l := range []row{nil, {}, {{}}, strange(), kinds(), make(row, 1000), many(70), many(3000)} {
		for _, n := range about(len(l)) {
			runs.Right(l, n)
			for _, r := range slices.Concat(kinds(), strange()) {
				runs.Next(l, n, r.Proto, r.Role, r.State)
			}
			for _, r := range []api.Run{{}, run(1, 1, 1, 0), run(math.MaxInt, math.MinInt, -1, 0)} {
				runs.May(r)
				runs.Add(l, n, r)
				runs.Set(l, n, r)
			}
		}
	}
}
