package kso_test

import (
	"fmt"
	"math"
	"math/rand"
	"reflect"
	"slices"
	"testing"

	"chamberlain/api"
	"chamberlain/desk"
	"chamberlain/kso"
	"chamberlain/msg"
	"chamberlain/people"
)

type row = []uint32

// edges are words that are easily taken for each other, or for nothing.
var edges = row{0, 1, 2, 3, 7, 255, 256, math.MaxInt32, 1 << 30, 1 << 31, 1<<31 | 99, 3 << 30, math.MaxUint32 - 1, math.MaxUint32}

// sameWorld and what it asks tell whether two are like each other in all that they have; nil and empty lists are one.
func sameWorld(a, b api.World) bool {
	return a.Conf == b.Conf && a.Draws.Next == b.Draws.Next && slices.Equal(a.Draws.List, b.Draws.List) &&
		a.Box.Room == b.Box.Room && slices.EqualFunc(a.Box.Sealed, b.Box.Sealed, sameEntry) &&
		a.Net.Room == b.Net.Room && slices.EqualFunc(a.Net.Grams, b.Net.Grams, sameGram) && sameRows(a.Net.Seen, b.Net.Seen) &&
		slices.EqualFunc(a.People, b.People, samePerson) && slices.Equal(a.Log, b.Log) && sameRows(a.Regs, b.Regs) && slices.Equal(a.Leaks, b.Leaks)
}

func sameEntry(a, b api.Sealed) bool {
	return a.Handle == b.Handle && a.Key == b.Key && a.Label == b.Label && slices.Equal(a.Plain, b.Plain)
}

func sameGram(a, b api.Gram) bool {
	return a.To == b.To && slices.Equal(a.Words, b.Words)
}

func sameRows(a, b []row) bool {
	return slices.EqualFunc(a, b, slices.Equal[row])
}

func samePerson(a, b api.Person) bool {
	return a.Name == b.Name && a.Key == b.Key && a.Clock == b.Clock && a.Corrupt == b.Corrupt && slices.Equal(a.Used, b.Used) && slices.Equal(a.Runs, b.Runs)
}

// words answers so many words, unlike those of another number.
func words(count, number int) row {
	var l row
	for i := range count {
		l = append(l, uint32(1000*number+i+1))
	}
	return l
}

// run answers a run that may be, like no other one of another number.
func run(number int) api.Run {
	n := uint32(number)
	return api.Run{Proto: 1 + number%2, Role: 1 + number/2%2, Peer: n + 1, Mine: n + 2, Their: n + 3, M: n + 4, K: n + 5, T: n + 6, State: 1 + number%3}
}

// someone answers a person with so many used words and runs.
func someone(name uint32, number, used, many int) api.Person {
	p := api.Person{Name: name, Key: uint32(number + 5), Clock: uint32(number + 6), Used: words(used, number), Corrupt: number%2 == 1}
	for i := range many {
		p.Runs = append(p.Runs, run(number+i))
	}
	return p
}

// event answers an event that is like no other one of another number in anything.
func event(number int) api.Event {
	n := uint32(number)
	return api.Event{Kind: number, Proto: number + 1, Role: number + 2, A: n + 3, B: n + 4, K: n + 5, T: n + 6, M: n + 7, N: n + 8, Clock: n + 9}
}

// fresh answers a new world of three principals, in whose lists stands nothing; its next draws are 2^31 + 4, 5, 6 and so on.
func fresh() api.World {
	list := row{1, 2, 3, 4, 5, 6, 7, 8, 9, 10, 11, 12, 13, 14, 15}
	l, d, _ := people.New(3, api.Draws{List: list})
	return api.World{
		Conf:  api.Conf{Window: 5, People: 3, Box: 16, Used: 4, Runs: 2, Net: 4, Regs: 1},
		Draws: d, Box: api.Box{Room: 16}, Net: api.Net{Room: 4}, People: l, Regs: []row{nil},
	}
}

// ready answers a world that has its form, something in each of its lists, and room for more of everything.
func ready() api.World {
	return api.World{
		Conf:  api.Conf{Window: 9, People: 3, Box: 9, Used: 5, Runs: 4, Net: 6, Regs: 2},
		Draws: api.Draws{List: row{21, 22, 23, 24, 1<<31 | 25, 26, 27, 28, 29, 30}, Next: 3},
		Box:   api.Box{Room: 9, Sealed: []api.Sealed{{Handle: 31, Key: 41, Label: 3, Plain: words(3, 51)}, {Handle: 32, Key: 42, Label: 99, Plain: row{}}}},
		Net: api.Net{Room: 6, Grams: []api.Gram{{To: 1, Words: words(2, 61)}, {To: 200, Words: nil}, {To: 0, Words: words(7, 62)}},
			Seen: []row{words(2, 61), words(7, 62), {}, words(3, 63)}},
		People: []api.Person{someone(0, 70, 2, 1), someone(1, 71, 0, 0), someone(2, 74, 1, 3), someone(3, 77, 2, 2)},
		Log:    []api.Event{event(80), event(81)},
		Regs:   []row{words(4, 90), {}},
		Leaks:  []api.Leak{{K: 95, At: 1}, {K: 96, At: 2}},
	}
}

// greatest answers a world whose every limit is reached, but that there is room for just one run's beginning and its shares.
func greatest() api.World {
	w := api.World{
		Conf:  api.Conf{Window: 1 << 20, People: 6, Box: 64, Used: 64, Runs: 64, Net: 64, Regs: 8},
		Draws: api.Draws{Next: 1<<20 - 3},
		Box:   api.Box{Room: 64},
		Net:   api.Net{Room: 64},
	}
	for i := range 60 {
		w.Box.Sealed = append(w.Box.Sealed, api.Sealed{Handle: uint32(i), Plain: words(64, i)})
	}
	for i := range 63 {
		w.Net.Grams = append(w.Net.Grams, api.Gram{To: uint32(i), Words: words(64, i)})
	}
	for i := range 300 {
		w.Net.Seen = append(w.Net.Seen, words(64, i))
	}
	for i := range 7 {
		w.People = append(w.People, someone(uint32(i), i, 64, 64))
		w.People[i].Clock = 1 << 30
	}
	w.People[0].Used = words(63, 0)
	for i := range 8 {
		w.Regs = append(w.Regs, words(64, i))
	}
	return w
}

// least answers a world that has no more than it must so that one run can begin and be shared.
func least() api.World {
	return api.World{
		Conf: api.Conf{People: 2, Box: 4, Used: 1, Net: 1, Regs: 1},
		Box:  api.Box{Room: 4}, Net: api.Net{Room: 1},
		People: []api.Person{{}, {Name: 1}, {Name: 2}}, Regs: []row{nil},
	}
}

// worlds answers worlds that have their form, in which there is room for a run's beginning and its shares.
func worlds() []api.World {
	return []api.World{fresh(), ready(), greatest(), least()}
}

// begun answers the world in which two began a run, and its OR2; unlike numbers have unlike handles and nonces.
func begun(w api.World, a, b, run, number uint32) (api.World, api.Msg) {
	m := api.Msg{Kind: api.OR2, Run: run, A: a, B: b, Box: 5000 + number, More: 6000 + number}
	w.Box.Sealed = append(slices.Clip(w.Box.Sealed),
		api.Sealed{Handle: m.Box, Key: keyOf(w, a), Label: 6, Plain: row{7000 + number, run, a, b}},
		api.Sealed{Handle: m.More, Key: keyOf(w, b), Label: 7, Plain: row{8000 + number, run, a, b}})
	return w, m
}

// keyOf answers the key of the one of a name; 0 of nobody's name, so that a name alone is what is wrong there.
func keyOf(w api.World, name uint32) uint32 {
	if name >= uint32(len(w.People)) {
		return 0
	}
	return w.People[name].Key
}

// hall is memory in which lists stand, with something ahead of each and behind it.
type hall struct {
	stays []func() bool
}

// in answers a list like the one handed in, which stands in a hall.
func in[T any](h *hall, l []T, odd T) []T {
	whole := slices.Concat([]T{odd}, l, []T{odd, odd, odd})
	was := slices.Clone(whole)
	// Lists that the list has stand in the hall themselves.
	h.stays = append(h.stays, func() bool { return reflect.DeepEqual(whole, was) })
	return whole[1 : 1+len(l)]
}

// each answers a list of lists, all of which stand in a hall, and so does the list.
func each(h *hall, l []row) []row {
	var m []row
	for _, one := range l {
		m = append(m, in(h, one, 7))
	}
	return in(h, m, row{8})
}

// roomy answers a world like the one handed in, which shares nothing with it, and all of whose lists stand in a hall.
func roomy(w api.World) (api.World, *hall) {
	h := &hall{}
	var sealed []api.Sealed
	for _, s := range w.Box.Sealed {
		s.Plain = in(h, s.Plain, 7)
		sealed = append(sealed, s)
	}
	var grams []api.Gram
	for _, g := range w.Net.Grams {
		g.Words = in(h, g.Words, 7)
		grams = append(grams, g)
	}
	var folk []api.Person
	for _, p := range w.People {
		p.Used, p.Runs = in(h, p.Used, 7), in(h, p.Runs, run(8))
		folk = append(folk, p)
	}
	w.Draws.List = in(h, w.Draws.List, 7)
	w.Box.Sealed = in(h, sealed, api.Sealed{Handle: 8})
	w.Net.Grams, w.Net.Seen = in(h, grams, api.Gram{To: 8}), each(h, w.Net.Seen)
	w.People = in(h, folk, api.Person{Name: 8})
	w.Log, w.Leaks = in(h, w.Log, event(8)), in(h, w.Leaks, api.Leak{K: 8})
	w.Regs = each(h, w.Regs)
	return w, h
}

// deep answers a copy of a world that shares nothing with it.
func deep(w api.World) api.World {
	v, _ := roomy(w)
	return v
}

// isAsItWas asks whether nothing in a hall was written into.
func (h *hall) isAsItWas() bool {
	return !slices.ContainsFunc(h.stays, func(stays func() bool) bool { return !stays() })
}

// fill fills a list, and the room behind its length, with something else.
func fill[T any](l []T, odd T) {
	for i := range l[:cap(l)] {
		l[:cap(l)][i] = odd
	}
}

// nth tells chapter 4's words anew: the i-th draw of a list.
func nth(list row, i int) uint32 {
	if i >= len(list) {
		return 3221225472 | uint32(i)
	}
	return list[i] | 2147483648
}

// opened tells the chapter's words anew: the nonce of an entry that opens, and tells of what was asked for.
func opened(w api.World, handle, key, label uint32, m api.Msg) (uint32, bool) {
	for _, s := range w.Box.Sealed {
		if s.Handle == handle && s.Key == key && s.Label == label && len(s.Plain) == 4 {
			return s.Plain[0], s.Plain[1] == m.Run && s.Plain[2] == m.A && s.Plain[3] == m.B
		}
	}
	return 0, false
}

// refused tells the chapter's words anew: the error of a world, if nothing is shared.
func refused(w api.World, m api.Msg) api.Errno {
	last := uint32(len(w.People) - 1)
	if m.A == 0 || m.B == 0 || m.A > last || m.B > last || m.A == m.B {
		return 5
	}
	if _, ok := opened(w, m.Box, w.People[m.A].Key, 6, m); !ok {
		return 6
	}
	if _, ok := opened(w, m.More, w.People[m.B].Key, 7, m); !ok {
		return 6
	}
	if slices.Contains(w.People[0].Used, m.Run) {
		return 8
	}
	if len(w.People[0].Used) == w.Conf.Used || len(w.Box.Sealed)+2 > w.Box.Room || len(w.Net.Grams)+1 > w.Net.Room {
		return 10
	}
	return 0
}

// shared tells the chapter's words anew; it answers in new memory.
func shared(w api.World, m api.Msg) (api.World, api.Errno) {
	v := deep(w)
	if errno := refused(w, m); errno != 0 {
		return v, errno
	}
	k, forB, forA := nth(w.Draws.List, w.Draws.Next), nth(w.Draws.List, w.Draws.Next+1), nth(w.Draws.List, w.Draws.Next+2)
	for _, s := range w.Box.Sealed {
		if s.Handle == forB || s.Handle == forA {
			return v, 8
		}
	}
	if forB == forA {
		return v, 8
	}
	nonceA, _ := opened(w, m.Box, w.People[m.A].Key, 6, m)
	nonceB, _ := opened(w, m.More, w.People[m.B].Key, 7, m)
	v.Draws.Next += 3
	v.Box.Sealed = append(v.Box.Sealed,
		api.Sealed{Handle: forB, Key: w.People[m.B].Key, Label: 8, Plain: row{nonceB, k}},
		api.Sealed{Handle: forA, Key: w.People[m.A].Key, Label: 9, Plain: row{nonceA, k}})
	v.People[0].Used = append(v.People[0].Used, m.Run)
	v.Log = append(v.Log, api.Event{Kind: 2, Proto: 2, Role: 0, A: m.A, B: m.B, K: k, T: 0, M: m.Run, N: 0, Clock: w.People[0].Clock})
	v.Net.Grams = append(v.Net.Grams, api.Gram{To: m.B, Words: row{1, 1, 8, 2, 1, m.Run, 6, 1, forA, 7, 1, forB}})
	v.Net.Seen = append(v.Net.Seen, row{1, 1, 8, 2, 1, m.Run, 6, 1, forA, 7, 1, forB})
	return v, 0
}

// check holds Share against the chapter's words, and answers what it did.
func check(t *testing.T, w api.World, m api.Msg) (api.World, api.Errno) {
	t.Helper()
	if !desk.Form(w) || !msg.May(m) || m.Kind != api.OR2 {
		t.Fatalf("nothing is promised of %+v, %+v", w, m)
	}
	want, wantErrno := shared(w, m)
	got, errno := kso.Share(w, m)
	if errno != wantErrno || !sameWorld(got, want) {
		t.Fatalf("Share(%+v) = %d, want %d: %+v, want %+v", m, errno, wantErrno, got, want)
	}
	if fits := got.Draws.Next <= 1<<20; desk.Form(got) != fits {
		t.Fatalf("Share(%+v): its form", m)
	}
	return got, errno
}

// expect is check, where it is known what is to be told; it tells, too, that w comes back beside an error.
func expect(t *testing.T, w api.World, m api.Msg, want api.Errno) api.World {
	t.Helper()
	got, errno := check(t, w, m)
	if errno != want {
		t.Fatalf("Share(%+v) = %d, want %d", m, errno, want)
	}
	if errno != api.OK && !sameWorld(got, w) {
		t.Fatalf("Share(%+v) = %d, and another world", m, errno)
	}
	return got
}

// P14.1: shares of one run of a new world, written out.
func TestShareWrittenOut(t *testing.T) {
	start := func() api.World {
		w := fresh()
		w.People[0].Clock, w.People[1].Clock, w.People[3].Clock = 7, 8, 9
		w.Box.Sealed = []api.Sealed{
			{Handle: 50, Key: 1<<31 + 1, Label: api.LabelFirst, Plain: row{71, 99, 1, 3}},
			{Handle: 51, Key: 1<<31 + 3, Label: api.LabelSecond, Plain: row{72, 99, 1, 3}},
		}
		return w
	}
	m := api.Msg{Kind: api.OR2, Run: 99, A: 1, B: 3, Box: 50, More: 51}
	got, errno := kso.Share(start(), m)
	const key, forB, forA = 1<<31 + 4, 1<<31 + 5, 1<<31 + 6
	want := start()
	want.Draws.Next = 6
	want.Box.Sealed = append(want.Box.Sealed,
		api.Sealed{Handle: forB, Key: 1<<31 + 3, Label: api.LabelShareB, Plain: row{72, key}},
		api.Sealed{Handle: forA, Key: 1<<31 + 1, Label: api.LabelShareA, Plain: row{71, key}})
	want.People[0].Used = row{99}
	want.Log = []api.Event{{Kind: api.EvIssue, Proto: api.ProtoOR, A: 1, B: 3, K: key, M: 99, Clock: 7}}
	want.Net.Grams = []api.Gram{{To: 3, Words: row{1, 1, 8, 2, 1, 99, 6, 1, forA, 7, 1, forB}}}
	want.Net.Seen = []row{{1, 1, 8, 2, 1, 99, 6, 1, forA, 7, 1, forB}}
	if errno != api.OK || !sameWorld(got, want) {
		t.Fatalf("%d: %+v, want %+v", errno, got, want)
	}
	expect(t, start(), m, api.OK)
}

// P14.1: the chapter's example: the same OR2 twice.
func TestSameTwice(t *testing.T) {
	for i, world := range worlds() {
		w, m := begun(world, 1, 2, 1<<31+99, 1)
		v := expect(t, w, m, api.OK)
		expect(t, v, m, api.ErrReplay)
		// With room for another one nothing but the Run stands in the way.
		v.Conf.Box, v.Box.Room, v.Conf.Net, v.Net.Room, v.Conf.Used = 64, 64, 64, 64, 64
		v.Box.Sealed, v.Net.Grams = v.Box.Sealed[max(0, len(v.Box.Sealed)-4):], v.Net.Grams[:min(len(v.Net.Grams), 63)]
		v.People = slices.Clone(v.People)
		v.People[0].Used = v.People[0].Used[len(v.People[0].Used)-1:]
		expect(t, v, m, api.ErrReplay)
		v.People[0].Used = nil
		if _, errno := check(t, v, m); errno != api.OK {
			t.Error(i, errno)
		}
	}
}

// P14.1: what is shared opens with the keys and the labels of those for whom it is, and with none else; it says just what the chapter names, each with that one's own nonce.
func TestWhoOpens(t *testing.T) {
	for i, world := range worlds()[:2] {
		for a := uint32(1); a <= 3; a++ {
			for b := uint32(1); b <= 3; b++ {
				if a == b {
					continue
				}
				w, asked := begun(world, a, b, 123, 10*a+b)
				v := expect(t, w, asked, api.OK)
				m, errno := msg.Get(v.Net.Grams[len(w.Net.Grams)].Words)
				if errno != api.OK || m != (api.Msg{Kind: api.OR3, Run: 123, Box: m.Box, More: m.More}) || v.Net.Grams[len(w.Net.Grams)].To != b {
					t.Fatal(i, a, b, m, errno)
				}
				key := v.Log[len(w.Log)].K
				p, ok := desk.Open(v, w.People[b].Key, api.LabelShareB, m.More)
				if !ok || p != (api.Part{N: 8000 + 10*a + b, K: key}) {
					t.Fatal(i, a, b, p, ok)
				}
				q, ok := desk.Open(v, w.People[a].Key, api.LabelShareA, m.Box)
				if !ok || q != (api.Part{N: 7000 + 10*a + b, K: key}) || m.Box == m.More || key == m.Box || key == m.More {
					t.Fatal(i, a, b, q, ok)
				}
				checkNobodyElse(t, v, a, b, m)
			}
		}
	}
}

// checkNobodyElse tells that a's share opens only by a's key, b's only by b's, each with its own label.
func checkNobodyElse(t *testing.T, w api.World, a, b uint32, m api.Msg) {
	t.Helper()
	for _, p := range w.People {
		for label := range uint32(12) {
			if _, ok := desk.Open(w, p.Key, label, m.Box); ok != (p.Name == a && label == 9) {
				t.Fatal(p.Name, label, "A's share", ok)
			}
			if _, ok := desk.Open(w, p.Key, label, m.More); ok != (p.Name == b && label == 8) {
				t.Fatal(p.Name, label, "B's share", ok)
			}
		}
	}
}

// P14.1: shares of several runs, one behind the other, of unlike pairs, either way round, as long as there is room.
func TestSeveral(t *testing.T) {
	w := fresh()
	w.Conf.Box, w.Box.Room = 40, 40
	w.Draws.List = append(w.Draws.List, 16, 17, 18, 19, 20)
	var m api.Msg
	for i, x := range [][3]uint32{{1, 2, 50}, {2, 1, 51}, {3, 1, 0}, {1, 2, math.MaxUint32}} {
		w.People = slices.Clone(w.People)
		w.People[0].Clock = uint32(10 * i)
		w, m = begun(w, x[0], x[1], x[2], uint32(i))
		w = expect(t, w, m, api.OK)
		if len(w.Log) != i+1 || w.Log[i].K != 1<<31+uint32(4+3*i) || w.Log[i].Clock != uint32(10*i) || len(w.Net.Grams) != i+1 || w.Net.Grams[i].To != x[1] {
			t.Fatal(i, w.Log, w.Net.Grams)
		}
	}
	if !slices.Equal(w.People[0].Used, row{50, 51, 0, math.MaxUint32}) || w.Draws.Next != 15 || len(w.Box.Sealed) != 16 {
		t.Fatal(w.People[0].Used, w.Draws.Next, w.Box.Sealed)
	}
	w, m = begun(w, 2, 3, 50, 4)
	expect(t, w, m, api.ErrReplay)
	w, m = begun(w, 2, 3, 52, 5)
	expect(t, w, m, api.ErrFull)
}

// P14.1: runs may begin ahead of one another, and be shared in another order.
func TestInAnotherOrder(t *testing.T) {
	w := fresh()
	var l []api.Msg
	for i, x := range [][2]uint32{{1, 2}, {1, 2}, {2, 3}} {
		v, m := begun(w, x[0], x[1], uint32(90+i), uint32(i))
		w, l = v, append(l, m)
	}
	for _, i := range []int{2, 0, 1} {
		w = expect(t, w, l[i], api.OK)
	}
	if !slices.Equal(w.People[0].Used, row{92, 90, 91}) {
		t.Error(w.People[0].Used)
	}
}

// P14.1: names: shares are for two principals, unlike; the server is none, and nobody else has a name.
func TestNames(t *testing.T) {
	for i, world := range worlds() {
		last := uint32(world.Conf.People)
		tried := append(slices.Clone(edges), 4, 5, 6, 8, last, last+1, 1<<31|1, 1<<31|2, 257, 258, 1<<16|1)
		for _, p := range world.People {
			// A key, a place in a list, and what was used are no names.
			tried = append(tried, p.Key)
		}
		for _, a := range tried {
			for _, b := range tried {
				want := api.ErrName
				if a >= 1 && a <= last && b >= 1 && b <= last && a != b {
					want = api.OK
				}
				// All else is as it should be of these names, those too that make no pair.
				w, m := begun(world, a, b, 1<<31+77, 1)
				if _, errno := check(t, w, m); errno != want {
					t.Fatal(i, a, b, errno)
				}
			}
		}
	}
}

// P14.1: a world of one principal has no pair.
func TestOnePrincipal(t *testing.T) {
	w := least()
	w.Conf.People, w.People = 1, w.People[:2]
	for a := range uint32(4) {
		for b := range uint32(4) {
			v, m := begun(w, a, b, 5, 1)
			expect(t, v, m, api.ErrName)
		}
	}
}

// P14.1: Box and More: each opens under its own one's key, with its own label, and tells of that run and of these two; whatever nonce it has. Of each all that may be wrong is tried.
func TestBoxes(t *testing.T) {
	for i, world := range worlds() {
		w, m := begun(world, 1, 2, 1<<31+77, 1)
		expect(t, w, m, api.OK)
		at := len(w.Box.Sealed) - 2
		for which := range 2 {
			right := w.Box.Sealed[at+which]
			turned := func(name string, s api.Sealed, want api.Errno) {
				v := w
				v.Box.Sealed = slices.Clone(w.Box.Sealed)
				v.Box.Sealed[at+which] = s
				if _, errno := check(t, v, m); errno != want {
					t.Fatal(i, which, name, s, errno)
				}
			}
			for label := range uint32(13) {
				s := right
				s.Label = label
				turned("label", s, isOpen(label == right.Label))
			}
			for _, key := range append(slices.Clone(edges), keyOf(w, 0), keyOf(w, 1), keyOf(w, 2), keyOf(w, 3), right.Key^1, right.Key^1<<31) {
				s := right
				s.Key = key
				turned("key", s, isOpen(key == right.Key))
			}
			for _, handle := range append(slices.Clone(edges), right.Handle^1, right.Handle^1<<31) {
				if !slices.ContainsFunc(w.Box.Sealed, func(s api.Sealed) bool { return s.Handle == handle }) {
					s := right
					s.Handle = handle
					turned("handle", s, api.ErrOpen)
				}
			}
			for place := range 4 {
				for _, word := range append(slices.Clone(edges), right.Plain[place], m.Run, m.Run^1<<31, m.Run+1) {
					s := right
					s.Plain = slices.Clone(right.Plain)
					s.Plain[place] = word
					turned(fmt.Sprint("word ", place), s, isOpen(place == 0 || word == right.Plain[place]))
				}
			}
			for count := range 65 {
				s := right
				s.Plain = words(count, 1)
				copy(s.Plain, right.Plain)
				turned("number of words", s, isOpen(count == 4))
			}
			s := right
			s.Plain = row{right.Plain[0], m.Run, m.B, m.A}
			turned("the other way round", s, api.ErrOpen)
		}
	}
}

// isOpen answers the error of a box that opens, or doesn't.
func isOpen(ok bool) api.Errno {
	if ok {
		return api.OK
	}
	return api.ErrOpen
}

// P14.1: handles in the message: of nothing that was sealed, of other entries, like ones, and the one in the other's place.
func TestHandlesAsked(t *testing.T) {
	for i, world := range []api.World{fresh(), ready(), least()} {
		w, m := begun(world, 2, 1, 1<<31+77, 1)
		tried := append(slices.Clone(edges), m.Box, m.More, m.Box+1, m.More+1, m.Box|1<<31, m.More|1<<31, nth(w.Draws.List, w.Draws.Next), nth(w.Draws.List, w.Draws.Next+1), nth(w.Draws.List, w.Draws.Next+2))
		for _, s := range w.Box.Sealed {
			tried = append(tried, s.Handle, s.Key)
		}
		for _, box := range tried {
			for _, more := range tried {
				n := m
				n.Box, n.More = box, more
				if _, errno := check(t, w, n); errno != isOpen(n == m) {
					t.Fatal(i, n, errno)
				}
			}
		}
	}
}

// P14.1: what is told first and what is told second are of one run and of one pair, and so is the message; whichever of them is of another one, nothing is shared.
func TestOneRun(t *testing.T) {
	for run := range uint32(3) {
		for b := uint32(2); b <= 3; b++ {
			w := fresh()
			var l []api.Msg
			for number, x := range [][2]uint32{{0, 2}, {0, 3}, {1, 2}, {1, 3}, {2, 2}, {2, 3}} {
				v, m := begun(w, 1, x[1], x[0], uint32(number))
				w, l = v, append(l, m)
			}
			for i, first := range l {
				for j, second := range l {
					m := api.Msg{Kind: api.OR2, Run: run, A: 1, B: b, Box: first.Box, More: second.More}
					if _, errno := check(t, w, m); errno != isOpen(i == j && first.Run == run && first.B == b) {
						t.Fatal(m, errno)
					}
				}
			}
		}
	}
}

// P14.1: of like nonces, and such as are like other words, too, each share has what its own one told.
func TestNonces(t *testing.T) {
	for i, world := range worlds()[:2] {
		w, m := begun(world, 3, 2, 1<<31+77, 1)
		at := len(w.Box.Sealed) - 2
		next := nth(w.Draws.List, w.Draws.Next)
		tried := append(slices.Clone(edges), next, next+1, next+2, m.Run, m.Box, m.More, w.People[0].Key, w.People[2].Key)
		for _, nonceA := range tried {
			for _, nonceB := range tried {
				w.Box.Sealed[at].Plain[0], w.Box.Sealed[at+1].Plain[0] = nonceA, nonceB
				v := expect(t, w, m, api.OK)
				if v.Box.Sealed[at+2].Plain[0] != nonceB || v.Box.Sealed[at+3].Plain[0] != nonceA || v.Log[len(w.Log)].N != 0 {
					t.Fatal(i, v.Box.Sealed[at:])
				}
			}
		}
	}
}

// P14.1: runs: of whatever word, 0 too, shares are given, and aren't once more, whoever asks.
func TestRuns(t *testing.T) {
	for i, world := range worlds()[:2] {
		next := nth(world.Draws.List, world.Draws.Next)
		for _, run := range append(slices.Clone(edges), next, next+1, next+2, world.People[1].Key, world.People[2].Key) {
			if slices.Contains(world.People[0].Used, run) {
				t.Fatal(i, run)
			}
			w, m := begun(world, 3, 2, run, 1)
			v := expect(t, w, m, api.OK)
			if l := v.People[0].Used; l[len(l)-1] != run || len(l) != len(w.People[0].Used)+1 || v.Log[len(w.Log)].M != run {
				t.Fatal(i, run, l)
			}
			for number, x := range [][2]uint32{{3, 2}, {2, 3}, {1, 2}, {3, 1}} {
				again, n := begun(v, x[0], x[1], run, uint32(2+number))
				// What was used is told ahead of the room.
				for _, room := range []int{len(again.Box.Sealed), 64} {
					again.Conf.Box, again.Box.Room = room, room
					expect(t, again, n, api.ErrReplay)
				}
			}
			other, n := begun(v, 3, 2, run^1<<31^4, 9)
			other.Conf.Box, other.Box.Room = 64, 64
			expect(t, other, n, api.OK)
		}
	}
}

// P14.1: the server's row alone says what was shared.
func TestWhoseRow(t *testing.T) {
	w, m := begun(ready(), 1, 2, 5, 1)
	for p := 1; p <= 3; p++ {
		w.People[p].Used = row{5, 6, 7, 8, 9}
	}
	v := expect(t, w, m, api.OK)
	for p := 1; p <= 3; p++ {
		if !samePerson(v.People[p], w.People[p]) {
			t.Error(p, v.People[p])
		}
	}
	w.People[1].Used, w.People[2].Used, w.People[3].Used = nil, nil, nil
	for _, l := range []row{{5, 6, 7}, {6, 5, 7}, {6, 7, 5}, {5}} {
		w.People[0].Used = l
		expect(t, w, m, api.ErrReplay)
	}
	w.People[0].Used = row{6, 7, 8}
	expect(t, w, m, api.OK)
}

// P14.1: the server's row has room for so many words as Conf says: with one place left one more run is shared, then none.
func TestUsedRoom(t *testing.T) {
	for _, room := range []int{0, 1, 2, 3, 31, 63, 64} {
		for used := max(0, room-3); used <= room; used++ {
			w, m := begun(ready(), 1, 2, 9, 1)
			w.Conf.Used = room
			for p := range w.People {
				w.People[p].Used = nil
			}
			w.People[0].Used = words(used, 5)
			if used == room {
				expect(t, w, m, api.ErrFull)
			} else {
				v := expect(t, w, m, api.OK)
				if !slices.Equal(v.People[0].Used, append(words(used, 5), 9)) {
					t.Fatal(room, used, v.People[0].Used)
				}
			}
			if used > 0 {
				w.People[0].Used[used-1] = 9
				expect(t, w, m, api.ErrReplay)
			}
		}
	}
}

// P14.1: the box needs room for two, the net for one.
func TestRoom(t *testing.T) {
	for boxes := range 5 {
		for frames := range 4 {
			for entries := range 3 {
				for grams := range 4 {
					w := ready()
					w.Box.Sealed, w.Net.Grams = w.Box.Sealed[:entries], w.Net.Grams[:grams]
					w, m := begun(w, 1, 2, 9, 1)
					w.Conf.Box, w.Conf.Net = entries+2+boxes, grams+frames
					w.Box.Room, w.Net.Room = entries+2+boxes, grams+frames
					want := api.ErrFull
					if boxes >= 2 && frames >= 1 {
						want = api.OK
					}
					expect(t, w, m, want)
				}
			}
		}
	}
}

// P14.1: the greatest rooms: with just the room that is asked for, and full.
func TestGreatestRoom(t *testing.T) {
	w, m := begun(greatest(), 6, 5, 1<<31+77, 1)
	v := expect(t, w, m, api.OK)
	if len(v.Box.Sealed) != 64 || len(v.Net.Grams) != 64 || len(v.Net.Seen) != 301 || len(v.People[0].Used) != 64 {
		t.Fatal(len(v.Box.Sealed), len(v.Net.Grams), len(v.Net.Seen), len(v.People[0].Used))
	}
	boxes, frames := deep(w), deep(w)
	boxes.Box.Sealed = append(boxes.Box.Sealed, api.Sealed{Handle: 99})
	frames.Net.Grams = append(frames.Net.Grams, api.Gram{To: 99})
	expect(t, boxes, m, api.ErrFull)
	expect(t, frames, m, api.ErrFull)
}

// faults are what may stand in the way of shares of a run of 2 and 3 in ready, in the chapter's order. Box and More are the entries 2 and 3.
var faults = []struct {
	name  string
	errno api.Errno
	make  func(w *api.World, m *api.Msg)
}{
	{"like names", api.ErrName, func(w *api.World, m *api.Msg) { m.B = m.A }},
	{"another first", api.ErrOpen, func(w *api.World, m *api.Msg) { w.Box.Sealed[2].Label = api.LabelSecond }},
	{"another second", api.ErrOpen, func(w *api.World, m *api.Msg) { w.Box.Sealed[3].Plain[1]++ }},
	{"run used", api.ErrReplay, func(w *api.World, m *api.Msg) { w.People[0].Used = append(w.People[0].Used, m.Run) }},
	{"used full", api.ErrFull, func(w *api.World, m *api.Msg) { w.Conf.Used = len(w.People[0].Used) }},
	{"no room in the box", api.ErrFull, func(w *api.World, m *api.Msg) { w.Conf.Box, w.Box.Room = 5, 5 }},
	{"no room in the net", api.ErrFull, func(w *api.World, m *api.Msg) { w.Conf.Net, w.Net.Room = 3, 3 }},
	{"handle of B's share used", api.ErrReplay, func(w *api.World, m *api.Msg) { w.Box.Sealed[0].Handle = 1<<31 | 25 }},
	{"handle of A's share used", api.ErrReplay, func(w *api.World, m *api.Msg) { w.Box.Sealed[1].Handle = 1<<31 | 26 }},
}

// P14.1: of several errors that apply the one is told that the chapter names first, and nothing is done; written out for each set of what may stand in the way.
func TestFirstError(t *testing.T) {
	for set := range 1 << len(faults) {
		w, m := begun(deep(ready()), 2, 3, 9, 1)
		want := api.OK
		var names []string
		for i, f := range faults {
			if set>>i&1 == 0 {
				continue
			}
			f.make(&w, &m)
			names = append(names, f.name)
			if want == api.OK {
				want = f.errno
			}
		}
		was := deep(w)
		got, errno := check(t, w, m)
		if errno != want {
			t.Errorf("%q: %d, want %d", names, errno, want)
		}
		if want != api.OK && !sameWorld(got, was) {
			t.Errorf("%q: another world", names)
		}
	}
}

// P14.1: names that make no pair, each kind of them, are told ahead of all else; boxes that don't open, each kind of them, ahead of all but those.
func TestAheadOfAll(t *testing.T) {
	for _, x := range [][2]uint32{{0, 1}, {1, 0}, {0, 0}, {2, 2}, {1, 4}, {4, 1}, {math.MaxUint32, 1}, {1, math.MaxUint32}} {
		w, m := begun(deep(ready()), x[0], x[1], 9, 1)
		for _, f := range faults[1:] {
			f.make(&w, &m)
			expect(t, w, m, api.ErrName)
		}
	}
	for _, turn := range []func(w *api.World, m *api.Msg){
		func(w *api.World, m *api.Msg) { m.Box = 4 },
		func(w *api.World, m *api.Msg) { m.More = 4 },
		func(w *api.World, m *api.Msg) { m.More = m.Box },
		func(w *api.World, m *api.Msg) { m.Box = m.More },
		func(w *api.World, m *api.Msg) { m.Box, m.More = m.More, m.Box },
		func(w *api.World, m *api.Msg) { m.A, m.B = m.B, m.A },
		func(w *api.World, m *api.Msg) { m.A = 1 },
		func(w *api.World, m *api.Msg) { m.B = 1 },
		func(w *api.World, m *api.Msg) { m.Run++ },
		func(w *api.World, m *api.Msg) { w.Box.Sealed[2].Key++ },
		func(w *api.World, m *api.Msg) { w.Box.Sealed[3].Key++ },
		func(w *api.World, m *api.Msg) { w.Box.Sealed[2].Plain = nil },
		func(w *api.World, m *api.Msg) { w.Box.Sealed[3].Plain[3] = 1 },
	} {
		w, m := begun(deep(ready()), 2, 3, 9, 1)
		turn(&w, &m)
		for _, f := range faults[3:] {
			f.make(&w, &m)
			expect(t, w, m, api.ErrOpen)
		}
	}
}

// P14.1: clocks say nothing, those at their ends neither: the server's stands in the event, and that is all.
func TestClocks(t *testing.T) {
	ends := []uint32{0, 1, 2, 5, 1 << 20, 1<<20 + 1, 1 << 29, 1<<30 - 1, 1 << 30}
	for i, world := range worlds() {
		for _, now := range ends {
			for _, theirs := range ends {
				for _, window := range []uint32{0, 1, 1 << 20} {
					w, m := begun(world, 2, 1, 1<<31+77, 1)
					w.Conf.Window, w.People = window, slices.Clone(w.People)
					for p := range w.People {
						w.People[p].Clock = theirs
					}
					w.People[0].Clock = now
					v, errno := kso.Share(w, m)
					if errno != api.OK {
						t.Fatal(i, now, theirs, window, errno)
					}
					if e := v.Log[len(w.Log)]; e.Clock != now || e.T != 0 || v.People[0].Clock != now || v.People[1].Clock != theirs {
						t.Fatal(i, now, theirs, window, e)
					}
				}
			}
			w, m := begun(world, 2, 1, 1<<31+77, 1)
			w.People = slices.Clone(w.People)
			w.People[0].Clock = now
			expect(t, w, m, api.OK)
		}
	}
}

// P14.1: a draw that is a handle already can't be B's share's, nor A's: w comes back, with nothing drawn. K is no handle, and may be like whatever word.
func TestHandlesUsed(t *testing.T) {
	for _, x := range []struct {
		name   string
		list   row
		handle uint32
		want   api.Errno
	}{
		{"all unlike", row{40, 41, 42}, 31, api.OK},
		{"the key is a handle", row{40, 41, 42}, 1<<31 | 40, api.OK},
		{"B's is one", row{40, 41, 42}, 1<<31 | 41, api.ErrReplay},
		{"A's is one", row{40, 41, 42}, 1<<31 | 42, api.ErrReplay},
		{"the next one's is one", row{40, 41, 42, 43}, 1<<31 | 43, api.OK},
		{"without the draw's bit it is another one", row{40, 41, 42}, 41, api.OK},
		{"with the bit in the list", row{40, 1<<31 | 41, 42}, 1<<31 | 41, api.ErrReplay},
		{"both like", row{40, 41, 41}, 31, api.ErrReplay},
		{"like but for the bit", row{40, 41, 1<<31 | 41}, 31, api.ErrReplay},
		{"all three like", row{40, 40, 40}, 31, api.ErrReplay},
		{"the key like B's", row{40, 40, 41}, 31, api.OK},
		{"the key like A's", row{40, 41, 40}, 31, api.OK},
		{"behind the list's end", row{40}, 3<<30 | 1, api.ErrReplay},
		{"further behind it", row{40}, 3<<30 | 2, api.ErrReplay},
		{"behind it, the key", row{}, 3 << 30, api.OK},
		{"behind it, unlike", row{}, 3<<30 | 3, api.OK},
		{"the list is like what is behind it", row{40, 1<<30 | 2}, 31, api.ErrReplay},
	} {
		// Whatever the entry is: another one's, or a beginning of this run itself.
		for at := range 4 {
			w, m := begun(deep(ready()), 1, 2, 9, 1)
			w.Draws = api.Draws{List: x.list}
			w.Box.Sealed[0].Handle = 33
			w.Box.Sealed[at].Handle = x.handle
			m.Box, m.More = w.Box.Sealed[2].Handle, w.Box.Sealed[3].Handle
			got, errno := check(t, w, m)
			if errno != x.want || errno != api.OK && (got.Draws.Next != 0 || len(got.Box.Sealed) != 4 || len(got.Log) != 2) {
				t.Errorf("%s: %d, want %d: %+v", x.name, errno, x.want, got)
			}
		}
	}
}

// P14.1: draws wherever Next is: ahead of the list's end, across it, behind it, and near the last Next that a world may have.
func TestDraws(t *testing.T) {
	for next := range 15 {
		w, m := begun(ready(), 1, 2, 9, 1)
		w.Draws.Next = next
		v := expect(t, w, m, api.OK)
		if v.Draws.Next != next+3 || v.Log[2].K != nth(w.Draws.List, next) {
			t.Error(next, v.Draws.Next, v.Log[2])
		}
	}
	for next := 1<<20 - 6; next <= 1<<20; next++ {
		w, m := begun(ready(), 1, 2, 9, 1)
		w.Draws.Next = next
		v := expect(t, w, m, api.OK)
		at := 3221225472 + uint32(next)
		if v.Draws.Next != next+3 || v.Log[2].K != at || v.Box.Sealed[4].Handle != at+1 || v.Box.Sealed[5].Handle != at+2 {
			t.Error(next, v.Draws.Next, v.Log[2], v.Box.Sealed[4:])
		}
		w.Box.Sealed = slices.Clone(w.Box.Sealed)
		w.Box.Sealed[0].Handle = at + 2
		expect(t, w, m, api.ErrReplay)
	}
}

// P14.1: a principal that is corrupt, or whose key is like another one's, or 0, has its share as any other.
func TestPrincipalsAsTheyAre(t *testing.T) {
	for _, keys := range [][2]uint32{{0, 0}, {5, 5}, {0, 1 << 31}, {math.MaxUint32, 7}, {1<<31 | 24, 1<<31 | 25}, {12345, 12345}} {
		for _, corrupt := range []bool{false, true} {
			w := ready()
			w.People[0].Corrupt, w.People[1].Corrupt, w.People[2].Corrupt = corrupt, corrupt, !corrupt
			w.People[1].Key, w.People[2].Key = keys[0], keys[1]
			// The server's key seals nothing.
			w.People[0].Key = 12345
			one, m := begun(w, 1, 2, 9, 1)
			v := expect(t, one, m, api.OK)
			if v.Box.Sealed[4].Key != keys[1] || v.Box.Sealed[5].Key != keys[0] {
				t.Error(keys, v.Box.Sealed[4:])
			}
			two, m := begun(w, 2, 1, 9, 1)
			expect(t, two, m, api.OK)
		}
	}
}

// P14.1: whatever else a world has: all is as the chapter's words say, in worlds that are put together by chance.
func TestByChance(t *testing.T) {
	r := rand.New(rand.NewSource(14))
	told := map[api.Errno]int{}
	for range 30000 {
		w, m := chance(r)
		_, errno := check(t, w, m)
		told[errno]++
	}
	for _, errno := range []api.Errno{api.OK, api.ErrName, api.ErrOpen, api.ErrReplay, api.ErrFull} {
		if told[errno] < 500 {
			t.Error(errno, told)
		}
	}
}

// chance puts a world together that has its form, in which runs began, and an OR2, most often of the last one of them.
func chance(r *rand.Rand) (api.World, api.Msg) {
	c := api.Conf{Window: uint32(r.Intn(5)), People: 1 + r.Intn(6), Box: 4 + r.Intn(9), Used: 1 + r.Intn(8), Runs: r.Intn(3), Net: 1 + r.Intn(5), Regs: 1 + r.Intn(3)}
	w := api.World{Conf: c, Box: api.Box{Room: c.Box}, Net: api.Net{Room: c.Net}, Regs: make([]row, c.Regs)}
	for range r.Intn(12) {
		w.Draws.List = append(w.Draws.List, uint32(r.Intn(40)))
	}
	w.Draws.Next = r.Intn(12)
	for i := range r.Intn(c.Net + 1) {
		w.Net.Grams = append(w.Net.Grams, api.Gram{To: uint32(r.Intn(9)), Words: words(r.Intn(20), i)})
	}
	for i := range r.Intn(6) {
		w.Net.Seen = append(w.Net.Seen, words(r.Intn(20), i))
		w.Log = append(w.Log, event(r.Intn(9)))
	}
	for name := range c.People + 1 {
		p := someone(uint32(name), r.Intn(40), 0, r.Intn(c.Runs+1))
		for _, word := range r.Perm(20)[:r.Intn(c.Used+1)] {
			p.Used = append(p.Used, uint32(word))
		}
		if r.Intn(6) == 0 {
			p.Clock = 1 << 30
		}
		w.People = append(w.People, p)
	}
	for i, handle := range r.Perm(40)[:r.Intn(c.Box-2)] {
		w.Box.Sealed = append(w.Box.Sealed, api.Sealed{Handle: 1<<31 | uint32(handle), Key: uint32(r.Intn(9)), Label: uint32(r.Intn(12)), Plain: words(r.Intn(6), i)})
	}
	return beginnings(r, w)
}

// beginnings has runs begin in a world by chance, and something go wrong now and then.
func beginnings(r *rand.Rand, w api.World) (api.World, api.Msg) {
	var m api.Msg
	for number := range 1 + r.Intn(3) {
		if len(w.Box.Sealed)+2 > w.Box.Room {
			break
		}
		a, b := uint32(r.Intn(w.Conf.People+2)), uint32(r.Intn(w.Conf.People+2))
		if w.Conf.People > 1 && r.Intn(6) > 0 {
			l := r.Perm(w.Conf.People)
			a, b = uint32(1+l[0]), uint32(1+l[1])
		}
		w, m = begun(w, a, b, uint32(r.Intn(20)), uint32(number))
	}
	if r.Intn(3) > 0 {
		return w, m
	}
	by := uint32(r.Intn(3)) - 1
	s := &w.Box.Sealed[len(w.Box.Sealed)-1-r.Intn(2)]
	for at, word := range []*uint32{&m.Run, &m.A, &m.B, &m.Box, &m.More, &s.Key, &s.Label, &s.Plain[0], &s.Plain[1], &s.Plain[2], &s.Plain[3]} {
		if at == r.Intn(11) {
			*word += by
		}
	}
	return w, m
}

// P14.2: whoever asks, and whenever: for each run a key is issued once at most, and there is one event; ErrReplay is told just of runs that were shared.
func TestRunOnce(t *testing.T) {
	r := rand.New(rand.NewSource(15))
	for range 60 {
		w := fresh()
		w.Draws.List = nil
		w.Conf.Box, w.Box.Room, w.Conf.Net, w.Net.Room, w.Conf.Used = 64, 64, 64, 64, 20
		shares := map[uint32]int{}
		var old []api.Msg
		for number := range uint32(150) {
			l := r.Perm(3)
			v, m := begun(w, uint32(1+l[0]), uint32(1+l[1]), uint32(r.Intn(30)), number)
			if old = append(old, m); r.Intn(3) == 0 {
				// What was asked for may be asked for again, as frames are doubled.
				m = old[max(0, len(old)-1-r.Intn(10))]
			}
			got, errno := check(t, v, m)
			if errno == api.OK {
				shares[m.Run]++
			} else if was := shares[m.Run] > 0; was != (errno == api.ErrReplay) {
				t.Fatal(m, errno, shares)
			}
			// There is always room for another one, and the beginnings of late are kept.
			w = got
			w.Net.Grams = w.Net.Grams[:min(len(w.Net.Grams), 60)]
			w.Box.Sealed = w.Box.Sealed[max(0, len(w.Box.Sealed)-60):]
		}
		checkOnce(t, w, shares)
	}
}

// checkOnce tells that of each run that was shared there is one event, with a key of its own.
func checkOnce(t *testing.T, w api.World, shares map[uint32]int) {
	t.Helper()
	logged, keys := map[uint32]int{}, map[uint32]int{}
	for _, e := range w.Log {
		logged[e.M]++
		keys[e.K]++
	}
	if !reflect.DeepEqual(logged, shares) || len(shares) != 20 || len(keys) != 20 {
		t.Fatal(logged, shares, keys)
	}
	for run, count := range shares {
		if count != 1 {
			t.Fatal(run, count)
		}
	}
}

// P14.2, and what the whole asks for: where draws are unlike, no key that is shared stands in a frame, on its way or seen; it stands in the two shares alone, each under the key of the one for whom it is.
func TestKeysInNoFrame(t *testing.T) {
	for i, w := range worlds()[:2] {
		for number, x := range [][2]uint32{{1, 2}, {2, 3}} {
			if i == 1 {
				w.Conf.Box, w.Box.Room = 16, 16
			}
			v, m := begun(w, x[0], x[1], uint32(50+number), uint32(number))
			was := len(v.Box.Sealed)
			w = expect(t, v, m, api.OK)
			key := w.Log[len(w.Log)-1].K
			if slices.ContainsFunc(w.Net.Seen, has(key)) || slices.ContainsFunc(w.Net.Grams, func(g api.Gram) bool { return g.To == key || has(key)(g.Words) }) {
				t.Fatal(i, m, key, w.Net)
			}
			for at, s := range w.Box.Sealed {
				theirs := at == was && s.Key == w.People[m.B].Key || at == was+1 && s.Key == w.People[m.A].Key
				if has(key)(s.Plain) != theirs || s.Handle == key {
					t.Fatal(i, m, key, s)
				}
			}
		}
		if one, two := w.Log[len(w.Log)-2].K, w.Log[len(w.Log)-1].K; one == two {
			t.Fatal(i, one)
		}
	}
}

// has answers the question whether a word stands in a row.
func has(word uint32) func(row) bool {
	return func(l row) bool { return slices.Contains(l, word) }
}

// ask answers OR2 of what begun made of that number.
func ask(a, b, run, number uint32) api.Msg {
	return api.Msg{Kind: api.OR2, Run: run, A: a, B: b, Box: 5000 + number, More: 6000 + number}
}

// asked are messages of which in most places the first two are shared, and the others aren't, for each reason.
func asked() []api.Msg {
	return []api.Msg{
		ask(1, 2, 1<<31+50, 1), ask(2, 1, 1<<31+51, 2), ask(2, 1, 70001, 3),
		ask(1, 1, 5, 1), ask(0, 2, 5, 1), ask(1, 9, 5, 1), ask(2, 1, 1<<31+50, 1), ask(1, 2, 1<<31+51, 1), ask(1, 2, 1<<31+50, 9),
	}
}

// several answers worlds in which runs of asked began, and two of them may be shared.
func several() []api.World {
	great := greatest()
	great.Box.Sealed = great.Box.Sealed[:58]
	l := []api.World{fresh(), ready(), great}
	for i := range l {
		l[i], _ = begun(l[i], 1, 2, 1<<31+50, 1)
		l[i], _ = begun(l[i], 2, 1, 1<<31+51, 2)
	}
	return l
}

// places answers worlds in which something is shared, and such in which nothing is, for each reason.
func places() []api.World {
	small, _ := begun(least(), 1, 2, 1<<31+50, 1)
	replayed, _ := begun(ready(), 2, 1, 70001, 3)
	l := append(several(), small, replayed)
	for _, f := range faults[1:] {
		w, m := begun(deep(ready()), 1, 2, 1<<31+50, 1)
		f.make(&w, &m)
		l = append(l, w)
	}
	return l
}

// P14.3: its tests hang on places in which each answer comes.
func TestPlaces(t *testing.T) {
	told := map[api.Errno]int{}
	for _, w := range places() {
		for _, m := range asked() {
			_, errno := check(t, w, m)
			told[errno]++
		}
	}
	for _, errno := range []api.Errno{api.OK, api.ErrName, api.ErrOpen, api.ErrReplay, api.ErrFull} {
		if told[errno] == 0 {
			t.Error(errno, told)
		}
	}
}

// fillNew fills the lists of an answer that didn't stay as they were in w: those that have more than they had, and what they have anew.
func fillNew(v, w api.World) {
	if len(v.Log) == len(w.Log) {
		return
	}
	for _, s := range v.Box.Sealed[len(w.Box.Sealed):] {
		fill(s.Plain, 6)
	}
	for _, g := range v.Net.Grams[len(w.Net.Grams):] {
		fill(g.Words, 6)
	}
	for _, l := range v.Net.Seen[len(w.Net.Seen):] {
		fill(l, 6)
	}
	fill(v.People[0].Used, 6)
	fill(v.Box.Sealed, api.Sealed{Handle: 6})
	fill(v.Net.Grams, api.Gram{To: 6})
	fill(v.Net.Seen, row{6})
	fill(v.People, api.Person{Name: 66})
	fill(v.Log, event(6))
}

// P14.3: no call changes a world, nor what stands ahead of its lists and in the room behind them; a write into what an answer has anew is seen neither in the world nor in another answer.
func TestHandedInStays(t *testing.T) {
	for i, world := range places() {
		for _, m := range asked() {
			name := fmt.Sprint(i, m)
			w, h := roomy(world)
			one, _ := kso.Share(w, m)
			want := deep(one)
			two, _ := kso.Share(w, m)
			if !h.isAsItWas() || !sameWorld(w, world) {
				t.Fatal(name, "changes what is handed in")
			}
			fillNew(one, w)
			if !h.isAsItWas() || !sameWorld(w, world) {
				t.Fatal(name, "a write into an answer is seen in what was handed in")
			}
			if !sameWorld(two, want) {
				t.Fatal(name, "a write into one answer is seen in another one")
			}
			fillNew(two, w)
			if three, _ := kso.Share(w, m); !sameWorld(three, want) {
				t.Fatal(name, "a write into one answer is seen in a later one")
			}
		}
	}
}

// P14.3: answers of one world go on apart: what is shared in one isn't shared in another.
func TestAnswersGoOnApart(t *testing.T) {
	for i, world := range several() {
		w, _ := roomy(world)
		one, errno := kso.Share(w, asked()[0])
		if errno != api.OK {
			t.Fatal(i, errno)
		}
		want := deep(one)
		two, errno := kso.Share(w, asked()[1])
		if errno != api.OK {
			t.Fatal(i, errno)
		}
		wantTwo := deep(two)
		for _, m := range asked() {
			three, _ := kso.Share(one, m)
			four, _ := kso.Share(two, m)
			fillNew(three, one)
			fillNew(four, two)
			if !sameWorld(w, world) || !sameWorld(one, want) || !sameWorld(two, wantTwo) {
				t.Fatal(i, m)
			}
		}
		fillNew(one, w)
		if !sameWorld(w, world) || !sameWorld(two, wantTwo) {
			t.Fatal(i, "a later change of one answer")
		}
	}
}

// P14.3: what an answer has anew doesn't change when what was handed in does.
func TestLaterChangeOfTheWorld(t *testing.T) {
	for room := range 4 {
		w, m := begun(deep(ready()), 1, 2, 9, 1)
		// Once there is no room behind the lists, then there is.
		w.Box.Sealed, w.Net.Grams, w.Net.Seen = with(w.Box.Sealed, room), with(w.Net.Grams, room), with(w.Net.Seen, room)
		w.Log, w.People, w.People[0].Used = with(w.Log, room), with(w.People, room), with(w.People[0].Used, room)
		want, wantErrno := shared(w, m)
		got, errno := kso.Share(w, m)
		fill(w.People[0].Used, 6)
		fill(w.Box.Sealed, api.Sealed{Handle: 6})
		fill(w.Net.Grams, api.Gram{To: 6})
		fill(w.Net.Seen, row{6})
		fill(w.Log, event(6))
		fill(w.People, api.Person{Name: 66})
		if errno != api.OK || errno != wantErrno || !sameWorld(got, want) {
			t.Errorf("%d: %d: %+v, want %+v", room, errno, got, want)
		}
	}
}

// with answers a copy of a list that has so much room behind it.
func with[T any](l []T, room int) []T {
	m := make([]T, len(l), len(l)+room)
	copy(m, l)
	return m
}

// Rule 8: what is answered hangs on what is handed in now, and on no call ahead of it.
func TestNothingIsKept(t *testing.T) {
	for _, m := range asked() {
		want, wantErrno := kso.Share(several()[1], m)
		want = deep(want)
		for _, w := range places() {
			for _, n := range asked() {
				kso.Share(w, n)
			}
		}
		if got, errno := kso.Share(several()[1], m); errno != wantErrno || !sameWorld(got, want) {
			t.Fatal(m, errno, got, want)
		}
	}
}

// Rule 5: nil and empty lists are one.
func TestNilAndEmpty(t *testing.T) {
	w, m := begun(fresh(), 1, 2, 9, 1)
	w.Net.Grams, w.Net.Seen, w.Log, w.Leaks, w.People[0].Used, w.People[0].Runs = nil, nil, nil, nil, nil, nil
	v, _ := begun(fresh(), 1, 2, 9, 1)
	v.Net.Grams, v.Net.Seen, v.Log, v.Leaks, v.People[0].Used, v.People[0].Runs = []api.Gram{}, []row{}, []api.Event{}, []api.Leak{}, row{}, []api.Run{}
	a, b := expect(t, w, m, api.OK), expect(t, v, m, api.OK)
	if !sameWorld(a, b) {
		t.Error(a, b)
	}
	w.Box.Sealed, v.Box.Sealed = nil, []api.Sealed{}
	expect(t, w, m, api.ErrOpen)
	expect(t, v, m, api.ErrOpen)
}

// P1 of all layers: calls end, and don't panic, at worlds and messages too of which nothing is promised.
func TestEveryCallEnds(t *testing.T) {
	l := append(places(), api.World{}, api.World{People: []api.Person{{Name: 1}, {Name: 2}}, Conf: api.Conf{Used: 1}, Box: api.Box{Room: 9}, Net: api.Net{Room: 9}})
	for _, n := range []int{math.MinInt, -3, -1, 0, 1, 65, math.MaxInt - 3, math.MaxInt} {
		w := ready()
		w.Conf = api.Conf{Window: math.MaxUint32, People: n, Box: n, Used: n, Runs: n, Net: n, Regs: n}
		w.Box.Room, w.Net.Room, w.Draws.Next = n, n, n
		v := ready()
		v.Draws.Next, v.People[0].Clock = n, math.MaxUint32
		u := ready()
		u.Draws.Next = n
		l = append(l, w, v, u)
	}
	for _, w := range l {
		w, m := begun(w, 1, 2, 9, 4)
		kso.Share(w, m)
		for kind := range uint32(11) {
			for _, a := range edges {
				for _, b := range []uint32{0, 1, 2, 9, math.MaxUint32} {
					kso.Share(w, api.Msg{Kind: kind, Run: a, A: a, B: b, Nonce: a, Box: m.Box, More: m.More})
					kso.Share(w, api.Msg{Kind: kind, Run: 9, A: 1, B: 2, Nonce: a, Box: a, More: b})
				}
			}
		}
	}
}
