package people_test

import (
	"math"
	"slices"
	"testing"

	"chamberlain/api"
	"chamberlain/people"
)

type row = []api.Person

// most is the greatest Next of a source that the promises speak of.
const most = 1 << 20

// lists are lists of sources: without words, of one, of some, alike ones and such as are a draw's already among them.
var lists = [][]uint32{nil, {}, {0}, {7}, {1<<31 | 6}, {math.MaxUint32}, {4, 4, 4}, {5, 1<<31 | 6, math.MaxUint32, 1 << 30, 0}, {9, 8, 7, 6, 5, 4, 3, 2, 1, 0, 1<<31 - 1, 9}}

// same tells whether two persons are like each other in all that a person has; nil and empty rows are one.
func same(p, q api.Person) bool {
	return p.Name == q.Name && p.Key == q.Key && p.Clock == q.Clock && p.Corrupt == q.Corrupt && slices.Equal(p.Used, q.Used) && slices.Equal(p.Runs, q.Runs)
}

func sameRow(l, m row) bool {
	return slices.EqualFunc(l, m, same)
}

func sameSource(d api.Draws, list []uint32, next int) bool {
	return slices.Equal(d.List, list) && d.Next == next
}

// deep answers a copy of a row that shares nothing with it.
func deep(l row) row {
	m := slices.Clone(l)
	for i := range m {
		m[i].Used = slices.Clone(m[i].Used)
		m[i].Runs = slices.Clone(m[i].Runs)
	}
	return m
}

// someone answers a person of a name, all of whose else is made of one number, with so many Used words and Runs.
func someone(name, w uint32, many int) api.Person {
	p := api.Person{Name: name, Key: w*2654435761 + 1, Clock: w + 3, Corrupt: w%2 == 1}
	for i := range uint32(many) {
		p.Used = append(p.Used, w^i)
		p.Runs = append(p.Runs, api.Run{Proto: 1 + int(i%2), Role: 1 + int(w%2), Peer: i, Mine: w, Their: w + i, M: i * 3, K: ^w, T: i + 5, State: 1 + int(i%3)})
	}
	return p
}

// folk answers the server and n principals, no two of them with the same key, clock, Used words or Runs.
func folk(n int) row {
	var l row
	for i := range n + 1 {
		l = append(l, someone(uint32(i), uint32(i)*5+2, i%4+1))
	}
	return l
}

// named answers a row of these names, and nothing else.
func named(names ...uint32) row {
	var l row
	for _, name := range names {
		l = append(l, api.Person{Name: name})
	}
	return l
}

// counted answers so many names, from one on.
func counted(from uint32, many int) []uint32 {
	var l []uint32
	for i := range uint32(many) {
		l = append(l, from+i)
	}
	return l
}

// far answers names that nobody has: such as would be somebody's if they were cut, or had a bit less, and those at all ends.
func far() []uint32 {
	l := []uint32{9, 63, 64, 254, math.MaxInt32 - 1, math.MaxInt32, math.MaxUint32 - 1, math.MaxUint32}
	for i := range uint32(8) {
		for _, bit := range []int{4, 7, 8, 15, 16, 24, 30, 31} {
			l = append(l, 1<<bit+i)
		}
		l = append(l, 3<<30+i, -i-1)
	}
	return l
}

// numbers answers numbers of which there are no people: about those of which there are, and such as would be taken for them if they were cut.
func numbers() []int {
	l := []int{-7, -6, -3, -2, -1, 0, 7, 8, 9, 63, 64, 65, math.MinInt, math.MinInt + 1, math.MinInt32, math.MaxInt32, math.MaxInt - 1, math.MaxInt}
	for n := 1; n <= 6; n++ {
		for _, bits := range []int{3, 4, 8, 16, 31, 32, 62} {
			l = append(l, n+1<<bits, n-1<<bits)
		}
	}
	return slices.DeleteFunc(l, func(n int) bool { return n >= 1 && n <= 6 })
}

// nth tells chapter 4's words anew: the i-th draw of a list.
func nth(list []uint32, i int) uint32 {
	if i >= len(list) {
		return 3221225472 | uint32(i)
	}
	return list[i] | 2147483648
}

// made tells the chapter's words anew: the people of a number, whose keys are the draws of a list from a place on.
func made(n int, list []uint32, from int) row {
	l := row{{Name: 0, Key: 0}}
	for i := 1; i <= n; i++ {
		l = append(l, api.Person{Name: uint32(i), Key: nth(list, from+i-1)})
	}
	return l
}

// places answers the Nexts of a source of a list: the beginning, all in its midst, those over its end, and those that are far behind it.
func places(list []uint32) []int {
	var l []int
	for i := range len(list) + 5 {
		l = append(l, i)
	}
	return append(l, 100, 1<<16, most-7, most-6, most-5, most-1, most)
}

// checkNew holds New of a right number against the chapter's words.
func checkNew(t *testing.T, n int, list []uint32, next int) {
	t.Helper()
	d := api.Draws{List: slices.Clone(list), Next: next}
	l, behind, e := people.New(n, d)
	if want := made(n, list, next); e != api.OK || !sameRow(l, want) {
		t.Fatalf("New(%d) of %v from %d = %v, %d, want %v", n, list, next, l, e, want)
	}
	if !sameSource(behind, list, next+n) {
		t.Fatalf("New(%d) of %v from %d: the source behind it is %v", n, list, next, behind)
	}
	if !sameSource(d, list, next) {
		t.Fatalf("New(%d) of %v from %d changed its source: %v", n, list, next, d)
	}
	if !people.Right(l) {
		t.Fatalf("New(%d) of %v from %d isn't right: %v", n, list, next, l)
	}
}

// checkGet holds Get of a right row against the chapter's words.
func checkGet(t *testing.T, l row, name uint32) {
	t.Helper()
	was := deep(l)
	p, ok := people.Get(l, name)
	if int64(name) < int64(len(was)) {
		if !ok || !same(p, was[name]) {
			t.Fatalf("Get(%d) of %d = %v, %v, want %v", name, len(was), p, ok, was[name])
		}
	} else if ok || !same(p, api.Person{}) {
		t.Fatalf("Get(%d) of %d = %v, %v, want none", name, len(was), p, ok)
	}
	if !sameRow(l, was) {
		t.Fatalf("Get(%d) changed its row: %v, was %v", name, l, was)
	}
}

// checkSet holds Set of a right row against the chapter's words.
func checkSet(t *testing.T, l row, p api.Person) row {
	t.Helper()
	was, put := deep(l), deep(row{p})[0]
	m, e := people.Set(l, p)
	want, we := deep(l), api.ErrArg
	if int64(p.Name) < int64(len(was)) {
		want[p.Name], we = put, api.OK
	}
	if e != we || !sameRow(m, want) {
		t.Fatalf("Set(%v) of %v = %v, %d, want %v, %d", put, was, m, e, want, we)
	}
	if !sameRow(l, was) || !same(p, put) {
		t.Fatalf("Set(%v) changed what was handed in: %v, %v, was %v", put, l, p, was)
	}
	return m
}

// checkPair holds Pair of a right row against the chapter's words.
func checkPair(t *testing.T, l row, a, b uint32) {
	t.Helper()
	was := deep(l)
	last := int64(len(l) - 1)
	want := a > 0 && b > 0 && int64(a) <= last && int64(b) <= last && a != b
	if got := people.Pair(l, a, b); got != want {
		t.Fatalf("Pair(%d, %d) of %d = %v, want %v", a, b, len(l), got, want)
	}
	if got := people.Pair(l, b, a); got != want {
		t.Fatalf("Pair(%d, %d) of %d = %v, but %v the other way", b, a, len(l), got, want)
	}
	if !sameRow(l, was) {
		t.Fatalf("Pair(%d, %d) changed its row: %v, was %v", a, b, l, was)
	}
}

// P10.1: people of each number, written out: from a list's beginning, from its midst, over its end, and without a list.
func TestNewWrittenOut(t *testing.T) {
	const draw, behind = 1 << 31, 3 << 30
	list := []uint32{7, 1<<31 | 5, 0, 1 << 30}
	for _, x := range []struct {
		n    int
		list []uint32
		next int
		keys []uint32
	}{
		{1, nil, 0, []uint32{behind}}, {2, nil, 0, []uint32{behind, behind | 1}}, {6, nil, 0, []uint32{behind, behind | 1, behind | 2, behind | 3, behind | 4, behind | 5}},
		{3, nil, 9, []uint32{behind | 9, behind | 10, behind | 11}}, {1, []uint32{}, 1, []uint32{behind | 1}},
		{1, list, 0, []uint32{draw | 7}}, {2, list, 0, []uint32{draw | 7, draw | 5}}, {3, list, 0, []uint32{draw | 7, draw | 5, draw}}, {4, list, 0, []uint32{draw | 7, draw | 5, draw, behind}},
		{5, list, 0, []uint32{draw | 7, draw | 5, draw, behind, behind | 4}}, {6, list, 0, []uint32{draw | 7, draw | 5, draw, behind, behind | 4, behind | 5}},
		{2, list, 1, []uint32{draw | 5, draw}}, {3, list, 2, []uint32{draw, behind, behind | 4}}, {2, list, 3, []uint32{behind, behind | 4}}, {2, list, 4, []uint32{behind | 4, behind | 5}},
		{6, list, 1 << 20, []uint32{behind | 1<<20, behind | 1<<20 | 1, behind | 1<<20 | 2, behind | 1<<20 | 3, behind | 1<<20 | 4, behind | 1<<20 | 5}},
	} {
		l, d, e := people.New(x.n, api.Draws{List: x.list, Next: x.next})
		if e != api.OK || len(l) != x.n+1 || !sameSource(d, x.list, x.next+x.n) {
			t.Fatal(x, l, d, e)
		}
		if !same(l[0], api.Person{}) || l[0].Name != api.Server {
			t.Error(x, "the server is", l[0])
		}
		for i, key := range x.keys {
			if !same(l[i+1], api.Person{Name: uint32(i + 1), Key: key}) {
				t.Error(x, "the principal", i+1, "is", l[i+1])
			}
		}
	}
}

// P10.1: people of each number, from all sources, at all places.
func TestNewOfAllNumbers(t *testing.T) {
	for n := 1; n <= 6; n++ {
		for _, list := range lists {
			for _, next := range places(list) {
				checkNew(t, n, list, next)
			}
		}
	}
}

// P10.1: of a list of as many words as a source may have draws, too.
func TestNewOfALongList(t *testing.T) {
	list := make([]uint32, most+3)
	for i := range list {
		list[i] = uint32(i) * 2654435761
	}
	for n := 1; n <= 6; n++ {
		for _, next := range []int{0, 1, 1 << 16, most - 6, most - 1, most} {
			checkNew(t, n, list, next)
		}
	}
}

// P10.1: of another number there is nobody, and the source is as it was.
func TestNewOfAnotherNumber(t *testing.T) {
	for _, n := range numbers() {
		for _, list := range lists {
			for _, next := range places(list) {
				l, d, e := people.New(n, api.Draws{List: list, Next: next})
				if e != api.ErrArg || len(l) != 0 || !sameSource(d, list, next) {
					t.Fatalf("New(%d) of %v from %d = %d people, %v, %d", n, list, next, len(l), d, e)
				}
			}
		}
	}
}

// P10.1: people made one behind the other, from the source behind the ones ahead, have draws one behind the other.
func TestNewGoesOn(t *testing.T) {
	list := []uint32{3, 1, 4, 1, 5, 9, 2, 6, 5, 3, 5}
	d := api.Draws{List: list}
	for i, n := range []int{2, 1, 0, 6, 3, 7, 1, 5, 6, -1, 4} {
		l, behind, e := people.New(n, d)
		if n < 1 || n > 6 {
			if e != api.ErrArg || len(l) != 0 || !sameSource(behind, list, d.Next) {
				t.Fatal(i, n, l, behind, e)
			}
			d = behind
			continue
		}
		if e != api.OK || !sameRow(l, made(n, list, d.Next)) || !sameSource(behind, list, d.Next+n) {
			t.Fatal(i, n, l, behind, e)
		}
		d = behind
	}
	if d.Next != 28 {
		t.Error(d)
	}
}

// P10.1: Right of rows whose names go on from 0, of all lengths about those that may be; nothing but names and length counts.
func TestRightOfAllLengths(t *testing.T) {
	for many := range 300 {
		want := many >= 2 && many <= 7
		if got := people.Right(named(counted(0, many)...)); got != want {
			t.Error("of", many, got)
		}
		if many == 0 {
			continue
		}
		if got := people.Right(folk(many - 1)); got != want {
			t.Error("of", many, "with keys, clocks, used words and runs:", got)
		}
	}
	if people.Right(nil) || people.Right(row{}) || people.Right(folk(3)[:0]) {
		t.Error("an empty row is right")
	}
	if people.Right(make(row, 2)) || people.Right(make(row, 7)) || people.Right(make(row, 1)) {
		t.Error("a row of servers is right")
	}
}

// P10.1: each name at each place but its own: the row isn't right.
func TestRightOfAnotherName(t *testing.T) {
	for n := 1; n <= 6; n++ {
		for i := range uint32(n + 1) {
			for _, name := range append(far(), counted(0, 10)...) {
				l := folk(n)
				l[i].Name = name
				if got := people.Right(l); got != (name == i) {
					t.Fatalf("of %d, of whom the one at %d is named %d: %v", n, i, name, got)
				}
			}
		}
	}
}

// P10.1: names out of order, twice, or from another number on.
func TestRightOfNamesOutOfOrder(t *testing.T) {
	for n := 1; n <= 6; n++ {
		for i := range n + 1 {
			for j := range n + 1 {
				swapped, twice := folk(n), folk(n)
				swapped[i], swapped[j] = swapped[j], swapped[i]
				twice[i] = twice[j]
				if people.Right(swapped) != (i == j) || people.Right(twice) != (i == j) {
					t.Fatal(n, i, j)
				}
			}
		}
		back := folk(n)
		slices.Reverse(back)
		for i, l := range []row{back, folk(n)[1:], append(folk(n)[1:], someone(0, 9, 1)), named(counted(1, n+1)...), named(counted(2, n+1)...), named(counted(math.MaxUint32, n+1)...), named(counted(1<<31, n+1)...), named(counted(256, n+1)...)} {
			if people.Right(l) {
				t.Error(n, i, l)
			}
		}
	}
	for i, names := range [][]uint32{{0, 0}, {1, 1}, {1, 0}, {1, 2}, {0, 2}, {0, 1, 1}, {0, 0, 1}, {0, 2, 1}, {0, 1, 3}, {1, 2, 3}, {0, 1, 2, 3, 4, 5, 5}, {0, 1, 2, 3, 4, 5, 7}, {1, 2, 3, 4, 5, 6, 7}} {
		if people.Right(named(names...)) {
			t.Error(i, names)
		}
	}
}

// P10.1: Right of all rows of few names.
func TestRightOfAllShortRows(t *testing.T) {
	rows := [][]uint32{nil}
	for many := 1; many <= 5; many++ {
		var longer [][]uint32
		for _, l := range rows {
			for name := range uint32(6) {
				longer = append(longer, append(slices.Clone(l), name))
			}
		}
		rows = longer
		right := 0
		for _, l := range rows {
			want := many >= 2 && slices.Equal(l, counted(0, many))
			if people.Right(named(l...)) != want {
				t.Fatal(l)
			}
			if want {
				right++
			}
		}
		if right != min(many-1, 1) {
			t.Error(many, right)
		}
	}
}

// P10.2: each one is got by the name, the server too, and nobody by another one.
func TestGetOfAllNames(t *testing.T) {
	for n := 1; n <= 6; n++ {
		for _, l := range []row{folk(n), made(n, nil, 0), named(counted(0, n+1)...)} {
			for _, name := range append(far(), counted(0, n+4)...) {
				checkGet(t, l, name)
			}
		}
	}
}

// P10.2: those whom New made are got with their keys.
func TestGetWrittenOut(t *testing.T) {
	l, _, _ := people.New(2, api.Draws{List: []uint32{7}})
	for _, x := range []struct {
		name, key uint32
		ok        bool
	}{{0, 0, true}, {1, 1<<31 | 7, true}, {2, 3<<30 | 1, true}, {3, 0, false}, {4, 0, false}, {256, 0, false}, {257, 0, false}, {1<<31 | 1, 0, false}, {math.MaxUint32, 0, false}} {
		p, ok := people.Get(l, x.name)
		want := api.Person{Name: x.name, Key: x.key}
		if !x.ok {
			want = api.Person{}
		}
		if ok != x.ok || !same(p, want) {
			t.Errorf("Get(%d) = %v, %v, want %v, %v", x.name, p, ok, want, x.ok)
		}
	}
}

// P10.2: whoever is set stands in the place of the one of that name, and nobody else is another.
func TestSetOfAllNames(t *testing.T) {
	for n := 1; n <= 6; n++ {
		for _, l := range []row{folk(n), made(n, nil, 0), named(counted(0, n+1)...)} {
			for _, name := range append(far(), counted(0, n+4)...) {
				for _, many := range []int{0, 1, 5, 64} {
					checkSet(t, l, someone(name, 77, many))
					checkSet(t, l, someone(name, 78, many))
				}
				checkSet(t, l, api.Person{Name: name})
				checkSet(t, l, api.Person{Name: name, Used: []uint32{4}})
				checkSet(t, l, api.Person{Name: name, Runs: []api.Run{{Proto: 1}}})
				checkSet(t, l, api.Person{Name: name, Corrupt: true})
			}
			for _, p := range l {
				checkSet(t, l, p)
			}
		}
	}
}

// P10.2: Set, written out; whoever is set is got, and the server is set like a principal.
func TestSetWrittenOut(t *testing.T) {
	l, _, _ := people.New(3, api.Draws{})
	for name := range uint32(4) {
		p := api.Person{Name: name, Key: 5, Clock: 6, Used: []uint32{7, 8}, Runs: []api.Run{{Proto: 2, Role: 1, Peer: 3, Mine: 4, K: 9, State: 2}}, Corrupt: true}
		m, e := people.Set(l, p)
		if e != api.OK || len(m) != 4 || !people.Right(m) {
			t.Fatal(name, m, e)
		}
		for other := range uint32(4) {
			want := api.Person{Name: other, Key: 3<<30 | (other - 1)}
			switch other {
			case name:
				want = p
			case 0:
				want = api.Person{}
			}
			if got, ok := people.Get(m, other); !ok || !same(got, want) || !same(m[other], want) {
				t.Error(name, other, got, ok, m)
			}
		}
	}
	for _, name := range []uint32{4, 5, 6, 7, 256, 259, 1 << 31, math.MaxUint32} {
		if m, e := people.Set(l, api.Person{Name: name, Key: 5}); e != api.ErrArg || !sameRow(m, made(3, nil, 0)) {
			t.Error(name, m, e)
		}
	}
}

// P10.2: set one behind the other, each has what was set last, and rows stay right.
func TestManySteps(t *testing.T) {
	for n := 1; n <= 6; n++ {
		l, want := folk(n), folk(n)
		state, told := uint32(n), map[api.Errno]int{}
		draw := func(n int) int {
			state = state*1664525 + 1013904223
			return int(state>>8) % n
		}
		for range 500 {
			p := someone(uint32(draw(n+3)), state, draw(6))
			if int(p.Name) <= n {
				want[p.Name] = deep(row{p})[0]
			}
			_, e := people.Set(l, p)
			told[e]++
			if l = checkSet(t, l, p); !sameRow(l, want) || !people.Right(l) {
				t.Fatal(n, p, l, want)
			}
			checkGet(t, l, uint32(draw(n+3)))
			checkPair(t, l, uint32(draw(n+3)), uint32(draw(n+3)))
		}
		if told[api.OK] == 0 || told[api.ErrArg] == 0 || len(told) != 2 {
			t.Error(n, told)
		}
	}
}

// P10.2: all names make pairs with all others, but the server's, one that nobody has, and one twice.
func TestPairOfAllNames(t *testing.T) {
	for n := 1; n <= 6; n++ {
		names := append(far(), counted(0, n+4)...)
		for _, l := range []row{folk(n), named(counted(0, n+1)...)} {
			pairs := 0
			for _, a := range names {
				for _, b := range names {
					checkPair(t, l, a, b)
					if people.Pair(l, a, b) {
						pairs++
					}
				}
			}
			if pairs != n*(n-1) {
				t.Error(n, pairs)
			}
		}
	}
}

// P10.2: pairs, written out; nothing but names counts, neither a key nor whether somebody is corrupt.
func TestPairWrittenOut(t *testing.T) {
	two, _, _ := people.New(2, api.Draws{})
	alike := row{{Corrupt: true}, {Name: 1, Key: 5, Corrupt: true}, {Name: 2, Key: 5, Corrupt: true}}
	for _, l := range []row{two, alike} {
		for _, x := range []struct {
			a, b uint32
			want bool
		}{{1, 2, true}, {2, 1, true}, {1, 1, false}, {2, 2, false}, {0, 0, false}, {0, 1, false}, {1, 0, false}, {0, 2, false}, {2, 0, false}, {1, 3, false}, {3, 1, false}, {3, 3, false}, {3, 4, false}, {0, 3, false}, {3, 0, false}, {1, 258, false}, {257, 2, false}, {1, 1<<31 | 2, false}, {math.MaxUint32, 1, false}, {1, math.MaxUint32, false}} {
			if got := people.Pair(l, x.a, x.b); got != x.want {
				t.Errorf("Pair(%d, %d) = %v, want %v", x.a, x.b, got, x.want)
			}
		}
	}
	one, _, _ := people.New(1, api.Draws{})
	for a := range uint32(4) {
		for b := range uint32(4) {
			if people.Pair(one, a, b) {
				t.Error("a pair of one principal alone:", a, b)
			}
		}
	}
}

// P10.1, P10.2: whoever stands in the room behind a row's length, or ahead of it, isn't in it.
func TestRoomBehindIsNobody(t *testing.T) {
	whole := append(row{someone(3, 1, 1)}, folk(9)...)
	l := whole[1:4]
	if !people.Right(l) || people.Right(whole) || people.Right(whole[1:]) || people.Right(whole[1:9]) || !people.Right(whole[1:8]) || people.Right(whole[1:2]) || people.Right(whole[:4]) {
		t.Error("Right looks behind the length, or ahead of the row")
	}
	for name := uint32(3); name < 9; name++ {
		checkGet(t, l, name)
		checkSet(t, l, someone(name, 7, 2))
		for other := range uint32(9) {
			checkPair(t, l, name, other)
		}
	}
	if want := append(row{someone(3, 1, 1)}, folk(9)...); !sameRow(whole, want) {
		t.Error(whole)
	}
}

// fill fills a row, and the room behind its length, with somebody else.
func fill(l row) {
	for i := range l[:cap(l)] {
		l[:cap(l)][i] = someone(77, 77, 3)
	}
}

// roomy answers people whose Used words and Runs have room behind them, and the whole of each, its room included.
func roomy(n int) (row, [][]uint32, [][]api.Run) {
	l := folk(n)
	var words [][]uint32
	var all [][]api.Run
	for i := range l {
		p := someone(uint32(i), uint32(i)+40, 9)
		words, all = append(words, p.Used), append(all, p.Runs)
		l[i].Used, l[i].Runs = p.Used[2:5], p.Runs[1:6]
	}
	return l, words, all
}

// P10.3: no call changes a row, nor who stands around it and in the room behind its length, nor what Used words and Runs stand in there; nor does a write into a row that was answered.
func TestHandedInStays(t *testing.T) {
	for n := 1; n <= 6; n++ {
		ahead, behind := someone(50, 50, 2), folk(3)
		mine, words, all := roomy(n)
		whole := slices.Concat(row{ahead}, mine, behind)
		l := whole[1 : n+2]
		was := deep(whole)
		wasWords, wasRuns := [][]uint32{}, [][]api.Run{}
		for i := range words {
			wasWords, wasRuns = append(wasWords, slices.Clone(words[i])), append(wasRuns, slices.Clone(all[i]))
		}
		check := func(call string, name uint32) {
			t.Helper()
			if !sameRow(whole, was) {
				t.Fatal(call, name, n, whole, was)
			}
			for i := range words {
				if !slices.Equal(words[i], wasWords[i]) || !slices.Equal(all[i], wasRuns[i]) {
					t.Fatal(call, name, n, "the Used words or the Runs of", i)
				}
			}
		}
		people.Right(l)
		people.Right(whole)
		check("Right", 0)
		for _, name := range append(far(), counted(0, n+5)...) {
			p, ok := people.Get(l, name)
			check("Get", name)
			p.Key, p.Clock, p.Corrupt, p.Name, p.Used, p.Runs = 1, 2, !p.Corrupt, 88, nil, nil
			check("a write behind Get", name)
			if m, e := people.Set(l, someone(name, 9, 4)); e == api.OK {
				check("Set", name)
				fill(m)
				check("a write behind Set", name)
			} else if ok {
				t.Fatal(name, e)
			}
			for other := range uint32(n + 5) {
				people.Pair(l, name, other)
				people.Pair(l, other, name)
			}
			check("Pair", name)
		}
	}
}

// P10.3: whoever is handed to Set stays, with the Used words and Runs, and the room behind them.
func TestSetOneStays(t *testing.T) {
	for n := 1; n <= 6; n++ {
		for _, name := range append(far(), counted(0, n+4)...) {
			p := someone(name, 5, 9)
			words, all := p.Used, p.Runs
			p.Used, p.Runs = words[1:4], all[2:5]
			was := deep(row{p})[0]
			m, e := people.Set(folk(n), p)
			if e == api.OK {
				fill(m)
			}
			if want := someone(name, 5, 9); !same(p, was) || !slices.Equal(words, want.Used) || !slices.Equal(all, want.Runs) {
				t.Fatal(n, name, p, words, all)
			}
		}
	}
}

// P10.3: what New answers is new memory: a write into it is seen neither in the source nor in another answer, and a write into the source's list isn't seen in it.
func TestMadeIsNewMemory(t *testing.T) {
	for n := 1; n <= 6; n++ {
		for _, list := range lists {
			for _, next := range places(list) {
				whole := append(slices.Clone(list), 31, 32, 33, 34)
				d := api.Draws{List: whole[:len(list)], Next: next}
				one, _, _ := people.New(n, d)
				two, behind, e := people.New(n, d)
				fill(one)
				if e != api.OK || !sameRow(two, made(n, list, next)) {
					t.Fatal(n, list, next, "a write into one answer is seen in another one", two, e)
				}
				if !slices.Equal(whole, append(slices.Clone(list), 31, 32, 33, 34)) || !sameSource(behind, list, next+n) {
					t.Fatal(n, list, next, "a write into an answer is seen in the source", whole)
				}
				for i := range whole {
					whole[i] = 99
				}
				if !sameRow(two, made(n, list, next)) {
					t.Fatal(n, list, next, "a write into the source's list is seen", two)
				}
				fill(two)
				if three, _, e := people.New(n, api.Draws{List: list, Next: next}); e != api.OK || !sameRow(three, made(n, list, next)) {
					t.Fatal(n, list, next, "a write into one answer is seen in a later one", three, e)
				}
			}
		}
	}
}

// P10.3: New leaves the source's list as it is, the room behind its length included, also of a number of which there are no people.
func TestSourceStays(t *testing.T) {
	for _, n := range append(numbers(), 1, 2, 3, 4, 5, 6) {
		for _, list := range lists {
			for _, next := range places(list) {
				was := append(slices.Concat([]uint32{71}, list), 31, 32, 33, 34, 35, 36, 37)
				whole := slices.Clone(was)
				d := api.Draws{List: whole[1 : 1+len(list)], Next: next}
				people.New(n, d)
				if !slices.Equal(whole, was) || !sameSource(d, list, next) {
					t.Fatal(n, list, next, whole, d)
				}
			}
		}
	}
}

// P10.3: what Set answers is new memory, even if the one that is set stood there already.
func TestSetIsNewMemory(t *testing.T) {
	for n := 1; n <= 6; n++ {
		for name := range uint32(n + 1) {
			for _, behind := range []int{0, 1, 8} {
				for _, p := range []api.Person{someone(name, 9, 3), {Name: name}, folk(n)[name]} {
					whole := append(folk(n), folk(behind)...)
					l := whole[:n+1]
					want := folk(n)
					want[name] = p
					one, _ := people.Set(l, p)
					two, e := people.Set(l, p)
					fill(one)
					if e != api.OK || !sameRow(two, want) {
						t.Fatal(n, name, behind, "a write into one answer is seen in another one", two, e)
					}
					if !sameRow(whole, append(folk(n), folk(behind)...)) {
						t.Fatal(n, name, behind, "a write into an answer is seen in the row that was handed in", whole)
					}
					fill(whole)
					if !sameRow(two, want) {
						t.Fatal(n, name, behind, "a write into the row that was handed in is seen", two)
					}
				}
			}
		}
	}
}

// P10.3: a row that is refused comes back as it was; later changes of it write into none of its memory.
func TestRefusedRowStays(t *testing.T) {
	for n := 1; n <= 6; n++ {
		for _, name := range append(far(), uint32(n+1), uint32(n+2)) {
			whole := append(folk(n), folk(3)...)
			l, e := people.Set(whole[:n+1], someone(name, 4, 2))
			if e != api.ErrArg || !sameRow(l, folk(n)) {
				t.Fatal(n, name, l, e)
			}
			checkSet(t, l, someone(1, 6, 2))
			if !sameRow(whole, append(folk(n), folk(3)...)) {
				t.Fatal(n, name, whole)
			}
		}
	}
}

// P10.3: rows that are made of one row go on apart: what is set in one isn't set in another.
func TestAnswersGoOnApart(t *testing.T) {
	for n := 1; n <= 6; n++ {
		l, _, _ := people.New(n, api.Draws{List: []uint32{4, 5}})
		for a := range uint32(n + 1) {
			for b := range uint32(n + 1) {
				p, q, r := someone(a, 3, 2), someone(b, 8, 3), someone(b, 9, 1)
				one, _ := people.Set(l, p)
				two, _ := people.Set(one, q)
				three, _ := people.Set(one, r)
				want := made(n, []uint32{4, 5}, 0)
				if !sameRow(l, want) {
					t.Fatal(n, a, b, l)
				}
				want[a] = p
				if !sameRow(one, want) {
					t.Fatal(n, a, b, one)
				}
				want[b] = q
				if !sameRow(two, want) {
					t.Fatal(n, a, b, two)
				}
				want[b] = r
				if !sameRow(three, want) {
					t.Fatal(n, a, b, three)
				}
			}
		}
	}
}

// Rule 8: what is answered hangs on what is handed in now, and on no call ahead of it.
func TestNothingIsKept(t *testing.T) {
	for _, other := range []row{folk(1), folk(4), folk(6), made(3, nil, 9)} {
		for _, n := range []int{-1, 1, 3, 6, 7} {
			for _, list := range lists {
				people.New(n, api.Draws{List: list, Next: 2})
				people.Set(other, someone(1, 9, 2))
				people.Set(other, someone(9, 9, 2))
				people.Get(other, 1)
				people.Get(other, 9)
				people.Right(other[:1])
				people.Pair(other, 1, 2)
				checkNew(t, 2, []uint32{8}, 0)
				for name := range uint32(5) {
					checkGet(t, folk(2), name)
					checkSet(t, folk(2), someone(name, 3, 1))
					checkPair(t, folk(2), 1, name)
				}
			}
		}
	}
}

// P1 of all layers: calls end, and don't panic, at rows and sources too of which nothing is promised.
func TestEveryCallEnds(t *testing.T) {
	for _, l := range []row{nil, {}, {{}}, {{}, {}}, {{Name: 1}}, named(counted(1, 3)...), named(3, 2, 1, 0), make(row, 1000), folk(7), folk(300), named(math.MaxUint32, 1<<31)} {
		people.Right(l)
		for _, name := range append(far(), counted(0, 10)...) {
			people.Get(l, name)
			people.Set(l, someone(name, 1, 1))
			for _, other := range append(far(), counted(0, 10)...) {
				people.Pair(l, name, other)
			}
		}
	}
	for _, n := range append(numbers(), 1, 2, 3, 4, 5, 6) {
		for _, next := range []int{math.MinInt, math.MinInt + 3, math.MinInt32, -most, -6, -3, -1, most + 1, 2*most - 3, 2 * most, 1 << 30, 1 << 31, 1 << 32, math.MaxInt - 3, math.MaxInt} {
			for _, list := range lists {
				people.New(n, api.Draws{List: list, Next: next})
			}
		}
	}
}
