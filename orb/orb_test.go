package orb_test

import (
	"fmt"
	"math"
	"math/rand"
	"reflect"
	"slices"
	"testing"

	"chamberlain/api"
	"chamberlain/desk"
	"chamberlain/kso"
	"chamberlain/msg"
	"chamberlain/ora"
	"chamberlain/orb"
	"chamberlain/people"
)

type row = []uint32

// edges are words that are easily taken for each other, or for nothing.
var edges = row{0, 1, 2, 3, 7, 255, 256, math.MaxInt32, 1 << 30, 1 << 31, 1<<31 | 99, 3 << 30, math.MaxUint32 - 1, math.MaxUint32}

// sameWorld and what it asks tell whether two are like each other in all that they have; nil and empty lists are one.
func sameWorld(a, b api.World) bool {
	return a.Conf == b.Conf && a.Draws.Next == b.Draws.Next && slices.Equal(a.Draws.List, b.Draws.List) &&
		a.Box.Room == b.Box.Room && slices.EqualFunc(a.Box.Sealed, b.Box.Sealed, sameEntry) &&
		a.Net.Room == b.Net.Room && slices.EqualFunc(a.Net.Grams, b.Net.Grams, sameGram) && sameRows(a.Net.Seen, b.Net.Seen) &&
		slices.EqualFunc(a.People, b.People, samePerson) && slices.Equal(a.Log, b.Log) && sameRows(a.Regs, b.Regs) && slices.Equal(a.Leaks, b.Leaks)
}

func sameEntry(a, b api.Sealed) bool {
	return a.Handle == b.Handle && a.Key == b.Key && a.Label == b.Label && slices.Equal(a.Plain, b.Plain)
}

func sameGram(a, b api.Gram) bool {
	return a.To == b.To && slices.Equal(a.Words, b.Words)
}

func sameRows(a, b []row) bool {
	return slices.EqualFunc(a, b, slices.Equal[row])
}

func samePerson(a, b api.Person) bool {
	return a.Name == b.Name && a.Key == b.Key && a.Clock == b.Clock && a.Corrupt == b.Corrupt && slices.Equal(a.Used, b.Used) && slices.Equal(a.Runs, b.Runs)
}

// words answers so many words, unlike those of another number.
func words(count, number int) row {
	var l row
	for i := range count {
		l = append(l, uint32(1000*number+i+1))
	}
	return l
}

// run answers a run that may be, like no other one of another number; none of them waits for shares.
func run(number int) api.Run {
	n := uint32(number)
	return api.Run{Proto: 1 + number%2, Role: api.RoleA, Peer: n + 1, Mine: n + 2, Their: n + 3, M: n + 4, K: n + 5, T: n + 6, State: 1 + number%3}
}

// someone answers a person with so many used words and runs.
func someone(name uint32, number, used, many int) api.Person {
	p := api.Person{Name: name, Key: uint32(number + 5), Clock: uint32(number + 6), Used: words(used, number), Corrupt: number%2 == 1}
	for i := range many {
		p.Runs = append(p.Runs, run(number+i))
	}
	return p
}

// event answers an event that is like no other one of another number in anything.
func event(number int) api.Event {
	n := uint32(number)
	return api.Event{Kind: number, Proto: number + 1, Role: number + 2, A: n + 3, B: n + 4, K: n + 5, T: n + 6, M: n + 7, N: n + 8, Clock: n + 9}
}

// fresh answers a new world of three principals, in whose lists stands nothing; its next draws are 2^31 + 4, 5, 6 and so on.
func fresh() api.World {
	list := row{1, 2, 3, 4, 5, 6, 7, 8, 9, 10, 11, 12, 13, 14, 15}
	l, d, _ := people.New(3, api.Draws{List: list})
	return api.World{
		Conf:  api.Conf{Window: 5, People: 3, Box: 16, Used: 4, Runs: 4, Net: 6, Regs: 1},
		Draws: d, Box: api.Box{Room: 16}, Net: api.Net{Room: 6}, People: l, Regs: []row{nil},
	}
}

// ready answers a world that has its form, something in each of its lists, and room for more of everything.
func ready() api.World {
	return api.World{
		Conf:  api.Conf{Window: 9, People: 3, Box: 9, Used: 5, Runs: 6, Net: 6, Regs: 2},
		Draws: api.Draws{List: row{21, 22, 23, 24, 1<<31 | 25, 26, 27, 28, 29, 30}, Next: 3},
		Box:   api.Box{Room: 9, Sealed: []api.Sealed{{Handle: 31, Key: 41, Label: 3, Plain: words(3, 51)}, {Handle: 32, Key: 42, Label: 99, Plain: row{}}}},
		Net: api.Net{Room: 6, Grams: []api.Gram{{To: 1, Words: words(2, 61)}, {To: 200, Words: nil}, {To: 0, Words: words(7, 62)}},
			Seen: []row{words(2, 61), words(7, 62), {}, words(3, 63)}},
		People: []api.Person{someone(0, 70, 2, 1), someone(1, 71, 0, 0), someone(2, 74, 1, 3), someone(3, 77, 2, 2)},
		Log:    []api.Event{event(80), event(81)},
		Regs:   []row{words(4, 90), {}},
		Leaks:  []api.Leak{{K: 95, At: 1}, {K: 96, At: 2}},
	}
}

// greatest answers a world whose every limit is reached, but that there is room for just one run and one used word of each, one frame, and one seal.
func greatest() api.World {
	w := api.World{
		Conf:  api.Conf{Window: 1 << 20, People: 6, Box: 64, Used: 64, Runs: 64, Net: 64, Regs: 8},
		Draws: api.Draws{Next: 1<<20 - 2},
		Box:   api.Box{Room: 64},
		Net:   api.Net{Room: 64},
	}
	for i := range 63 {
		w.Box.Sealed = append(w.Box.Sealed, api.Sealed{Handle: uint32(i), Plain: words(64, i)})
		w.Net.Grams = append(w.Net.Grams, api.Gram{To: uint32(i), Words: words(64, i)})
	}
	for i := range 300 {
		w.Net.Seen = append(w.Net.Seen, words(64, i))
	}
	for i := range 7 {
		w.People = append(w.People, someone(uint32(i), i, 63, 63))
		w.People[i].Clock = 1 << 30
	}
	for i := range 8 {
		w.Regs = append(w.Regs, words(64, i))
	}
	return w
}

// least answers a world that has no more than it must so that first words can be taken, or shares.
func least() api.World {
	return api.World{
		Conf: api.Conf{People: 2, Box: 1, Used: 1, Runs: 1, Net: 1, Regs: 1},
		Box:  api.Box{Room: 1}, Net: api.Net{Room: 1},
		People: []api.Person{{}, {Name: 1}, {Name: 2}}, Regs: []row{nil},
	}
}

// worlds answers worlds that have their form, in which there is room for one run more, and for what any one step of it needs.
func worlds() []api.World {
	return []api.World{fresh(), ready(), greatest(), least()}
}

// hold answers a world in which somebody has one run more, behind its others.
func hold(w api.World, name uint32, r api.Run) api.World {
	w.People = slices.Clone(w.People)
	w.People[name].Runs = append(slices.Clip(w.People[name].Runs), r)
	return w
}

// sealed answers a world with one entry more.
func sealed(w api.World, handle, key, label uint32, plain ...uint32) api.World {
	w.Box.Sealed = append(slices.Clip(w.Box.Sealed), api.Sealed{Handle: handle, Key: key, Label: label, Plain: plain})
	return w
}

// timed answers a world in which somebody's clock is another one.
func timed(w api.World, name, clock uint32) api.World {
	w.People = slices.Clone(w.People)
	w.People[name].Clock = clock
	return w
}

// call is one of the two calls, with what is handed in beside a world.
type call struct {
	what string
	me   uint32
	m    api.Msg
}

// first answers the call that has first words come to a principal, of a run, from A; with a Box that nobody sealed, most often.
func first(me, a, run, box uint32) call {
	return call{what: "First", me: me, m: api.Msg{Kind: api.OR1, Run: run, A: a, B: me, Box: box}}
}

// share answers the call that has shares come to a principal: Box is A's, More is its own.
func share(me, run, box, more uint32) call {
	return call{what: "Share", me: me, m: api.Msg{Kind: api.OR3, Run: run, Box: box, More: more}}
}

// do does a call.
func (c call) do(w api.World) (api.World, api.Errno) {
	if c.what == "First" {
		return orb.First(w, c.me, c.m)
	}
	return orb.Share(w, c.me, c.m)
}

// may asks whether something is promised of a call.
func (c call) may(w api.World) bool {
	kind := map[string]uint32{"First": api.OR1, "Share": api.OR3}[c.what]
	return desk.Form(w) && c.me > 0 && c.me < uint32(len(w.People)) && c.m.Kind == kind && msg.May(c.m)
}

// waits answers a run that waits for shares; what a run has beside that is whatever it was.
func waits(peer, mine, m uint32) api.Run {
	return api.Run{Proto: api.ProtoOR, Role: api.RoleB, Peer: peer, Mine: mine, Their: 93, M: m, K: 95, T: 96, State: api.Waiting}
}

// shared answers a world in which a principal waits for shares, and those shares come, of which A's was sealed by nobody; unlike numbers have unlike words.
func shared(w api.World, me, peer, number uint32) (api.World, call) {
	w = hold(w, me, waits(peer, 7000+number, 8000+number))
	w = sealed(w, 5000+number, w.People[me].Key, api.LabelShareB, 7000+number, 9000+number)
	return w, share(me, 8000+number, 6000+number, 5000+number)
}

// hall is memory in which lists stand, with something ahead of each and behind it.
type hall struct {
	stays []func() bool
}

// in answers a list like the one handed in, which stands in a hall.
func in[T any](h *hall, l []T, odd T) []T {
	whole := slices.Concat([]T{odd}, l, []T{odd, odd, odd})
	was := slices.Clone(whole)
	// Lists that the list has stand in the hall themselves.
	h.stays = append(h.stays, func() bool { return reflect.DeepEqual(whole, was) })
	return whole[1 : 1+len(l)]
}

// each answers a list of lists, all of which stand in a hall, and so does the list.
func each(h *hall, l []row) []row {
	var m []row
	for _, one := range l {
		m = append(m, in(h, one, 7))
	}
	return in(h, m, row{8})
}

// roomy answers a world like the one handed in, which shares nothing with it, and all of whose lists stand in a hall.
func roomy(w api.World) (api.World, *hall) {
	h := &hall{}
	var entries []api.Sealed
	for _, s := range w.Box.Sealed {
		s.Plain = in(h, s.Plain, 7)
		entries = append(entries, s)
	}
	var grams []api.Gram
	for _, g := range w.Net.Grams {
		g.Words = in(h, g.Words, 7)
		grams = append(grams, g)
	}
	var folk []api.Person
	for _, p := range w.People {
		p.Used, p.Runs = in(h, p.Used, 7), in(h, p.Runs, run(8))
		folk = append(folk, p)
	}
	w.Draws.List = in(h, w.Draws.List, 7)
	w.Box.Sealed = in(h, entries, api.Sealed{Handle: 8})
	w.Net.Grams, w.Net.Seen = in(h, grams, api.Gram{To: 8}), each(h, w.Net.Seen)
	w.People = in(h, folk, api.Person{Name: 8})
	w.Log, w.Leaks = in(h, w.Log, event(8)), in(h, w.Leaks, api.Leak{K: 8})
	w.Regs = each(h, w.Regs)
	return w, h
}

// deep answers a copy of a world that shares nothing with it.
func deep(w api.World) api.World {
	v, _ := roomy(w)
	return v
}

// isAsItWas asks whether nothing in a hall was written into.
func (h *hall) isAsItWas() bool {
	return !slices.ContainsFunc(h.stays, func(stays func() bool) bool { return !stays() })
}

// fill fills a list, and the room behind its length, with something else.
func fill[T any](l []T, odd T) {
	for i := range l[:cap(l)] {
		l[:cap(l)][i] = odd
	}
}

// nth tells chapter 4's words anew: the i-th draw of a list.
func nth(list row, i int) uint32 {
	if i >= len(list) {
		return 3221225472 | uint32(i)
	}
	return list[i] | 2147483648
}

// opened tells the chapter's words anew: the words of an entry that opens, if there are so many.
func opened(w api.World, key, label, handle uint32, count int) (row, bool) {
	for _, s := range w.Box.Sealed {
		if s.Handle == handle {
			return s.Plain, s.Key == key && s.Label == label && len(s.Plain) == count
		}
	}
	return nil, false
}

// retold tells the chapter's words anew; it answers in new memory.
func (c call) retold(w api.World) (api.World, api.Errno) {
	if c.what == "First" {
		return begun(deep(w), c.me, c.m)
	}
	return committed(deep(w), c.me, c.m)
}

// begun tells of first words that come.
func begun(v api.World, name uint32, m api.Msg) (api.World, api.Errno) {
	if m.B != name || m.A == 0 || m.A >= uint32(len(v.People)) || m.A == name {
		return v, 5
	}
	me := &v.People[name]
	if slices.Contains(me.Used, m.Run) {
		return v, 8
	}
	if len(me.Used) == v.Conf.Used || len(me.Runs) == v.Conf.Runs || len(v.Box.Sealed) == v.Box.Room || len(v.Net.Grams) == v.Net.Room {
		return v, 10
	}
	n, handle := nth(v.Draws.List, v.Draws.Next), nth(v.Draws.List, v.Draws.Next+1)
	if slices.ContainsFunc(v.Box.Sealed, func(s api.Sealed) bool { return s.Handle == handle }) {
		return v, 8
	}
	v.Draws.Next += 2
	v.Box.Sealed = append(v.Box.Sealed, api.Sealed{Handle: handle, Key: me.Key, Label: 7, Plain: row{n, m.Run, m.A, name}})
	me.Used = append(me.Used, m.Run)
	me.Runs = append(me.Runs, api.Run{Proto: 2, Role: 2, Peer: m.A, Mine: n, M: m.Run, State: 1})
	v.Log = append(v.Log, api.Event{Kind: 3, Proto: 2, Role: 2, A: m.A, B: name, M: m.Run, N: n, Clock: me.Clock})
	return sent(v, 0, 1, 1, 7, 2, 1, m.Run, 3, 1, m.A, 4, 1, name, 6, 1, m.Box, 7, 1, handle), 0
}

// committed tells of shares that come.
func committed(v api.World, name uint32, m api.Msg) (api.World, api.Errno) {
	me := &v.People[name]
	at := slices.IndexFunc(me.Runs, func(r api.Run) bool { return r.Proto == 2 && r.Role == 2 && r.State == 1 && r.M == m.Run })
	if at < 0 {
		return v, 9
	}
	r := &me.Runs[at]
	l, ok := opened(v, me.Key, 8, m.More, 2)
	if !ok || l[0] != r.Mine {
		return v, 6
	}
	if len(v.Net.Grams) == v.Net.Room {
		return v, 10
	}
	r.K, r.State = l[1], 3
	v.Log = append(v.Log, api.Event{Kind: 4, Proto: 2, Role: 2, A: r.Peer, B: name, K: r.K, M: r.M, N: r.Mine, Clock: me.Clock})
	return sent(v, r.Peer, 1, 1, 9, 2, 1, m.Run, 6, 1, m.Box), 0
}

// sent answers a world with one frame more on its way, and seen.
func sent(v api.World, to uint32, words ...uint32) api.World {
	v.Net.Grams = append(v.Net.Grams, api.Gram{To: to, Words: words})
	v.Net.Seen = append(v.Net.Seen, words)
	return v
}

// check holds a call against the chapter's words, and answers what it did.
func check(t *testing.T, w api.World, c call) (api.World, api.Errno) {
	t.Helper()
	if !c.may(w) {
		t.Fatalf("nothing is promised of %+v, %+v", w, c)
	}
	want, wantErrno := c.retold(w)
	got, errno := c.do(w)
	if errno != wantErrno || !sameWorld(got, want) {
		t.Fatalf("%+v = %d, want %d: %+v, want %+v", c, errno, wantErrno, got, want)
	}
	if fits := got.Draws.Next <= 1<<20; desk.Form(got) != fits {
		t.Fatalf("%+v: its form", c)
	}
	return got, errno
}

// expect is check, where it is known what is to be told; it tells, too, that w comes back beside an error.
func expect(t *testing.T, w api.World, c call, want api.Errno) api.World {
	t.Helper()
	got, errno := check(t, w, c)
	if errno != want {
		t.Fatalf("%+v = %d, want %d", c, errno, want)
	}
	if errno != api.OK && !sameWorld(got, w) {
		t.Fatalf("%+v = %d, and another world", c, errno)
	}
	return got
}

// last answers the last event of a log.
func last(w api.World) api.Event {
	return w.Log[len(w.Log)-1]
}

// P18.1: a run of a new world, both of its steps written out.
func TestWrittenOut(t *testing.T) {
	const id, nonce, second, key = 1<<31 + 88, 1<<31 + 4, 1<<31 + 5, 1<<31 + 77
	w := fresh()
	w.People[0].Clock, w.People[1].Clock, w.People[3].Clock = 7, 20, 9
	got, errno := orb.First(w, 3, api.Msg{Kind: api.OR1, Run: id, A: 1, B: 3, Box: 61})
	want := deep(w)
	want.Draws.Next = 5
	want.Box.Sealed = []api.Sealed{{Handle: second, Key: 1<<31 + 3, Label: api.LabelSecond, Plain: row{nonce, id, 1, 3}}}
	want.People[3].Used = row{id}
	want.People[3].Runs = []api.Run{{Proto: api.ProtoOR, Role: api.RoleB, Peer: 1, Mine: nonce, M: id, State: api.Waiting}}
	want.Log = []api.Event{{Kind: api.EvRun, Proto: api.ProtoOR, Role: api.RoleB, A: 1, B: 3, M: id, N: nonce, Clock: 9}}
	want.Net.Grams = []api.Gram{{To: api.Server, Words: row{1, 1, 7, 2, 1, id, 3, 1, 1, 4, 1, 3, 6, 1, 61, 7, 1, second}}}
	want.Net.Seen = []row{{1, 1, 7, 2, 1, id, 3, 1, 1, 4, 1, 3, 6, 1, 61, 7, 1, second}}
	if errno != api.OK || !sameWorld(got, want) {
		t.Fatalf("%d: %+v, want %+v", errno, got, want)
	}
	w = timed(sealed(got, 51, 1<<31+3, api.LabelShareB, nonce, key), 3, 29)
	got, errno = orb.Share(w, 3, api.Msg{Kind: api.OR3, Run: id, Box: 62, More: 51})
	want = deep(w)
	want.People[3].Runs = []api.Run{{Proto: api.ProtoOR, Role: api.RoleB, Peer: 1, Mine: nonce, M: id, K: key, State: api.Done}}
	want.Log = append(want.Log, api.Event{Kind: api.EvCommit, Proto: api.ProtoOR, Role: api.RoleB, A: 1, B: 3, K: key, M: id, N: nonce, Clock: 29})
	want.Net.Grams = append(want.Net.Grams, api.Gram{To: 1, Words: row{1, 1, 9, 2, 1, id, 6, 1, 62}})
	want.Net.Seen = append(want.Net.Seen, row{1, 1, 9, 2, 1, id, 6, 1, 62})
	if errno != api.OK || !sameWorld(got, want) {
		t.Fatalf("%d: %+v, want %+v", errno, got, want)
	}
}

// P18.1: the chapter's example: the same first words twice; and the same run in first words with another Box, of another A, also when the run is Done.
func TestSameFirstWordsTwice(t *testing.T) {
	for i, world := range worlds() {
		v := expect(t, world, first(2, 1, 8001, 61), api.OK)
		mine := last(v).N
		for step := range 2 {
			// No room is left in some of these worlds: that the run was taken is told ahead of that.
			for a := uint32(1); a <= uint32(v.Conf.People); a++ {
				want := api.ErrReplay
				if a == 2 {
					want = api.ErrName
				}
				for _, box := range append(slices.Clone(edges), 61) {
					expect(t, v, first(2, a, 8001, box), want)
				}
			}
			if step > 0 {
				break
			}
			v.Box.Sealed = sealed(world, 50001, v.People[2].Key, api.LabelShareB, mine, 77).Box.Sealed
			v.Net.Grams = v.Net.Grams[:len(world.Net.Grams)]
			v = expect(t, v, share(2, 8001, 61, 50001), api.OK)
		}
		if l := v.People[2].Runs; l[len(l)-1].K != 77 || len(l) != len(world.People[2].Runs)+1 {
			t.Error(i, l)
		}
	}
}

// come answers the message of a frame that is on its way to somebody.
func come(t *testing.T, w api.World, at int, to uint32) api.Msg {
	t.Helper()
	m, errno := msg.Get(w.Net.Grams[at].Words)
	if errno != api.OK || w.Net.Grams[at].To != to {
		t.Fatal(at, to, errno, w.Net.Grams[at])
	}
	return m
}

// P18.1: what the initiator tells first is taken, what the server makes of it, too, and what is handed on commits the initiator; whoever begins with whom. Draws are numbered as they are made.
func TestWholeRun(t *testing.T) {
	for a := uint32(1); a <= 3; a++ {
		for b := uint32(1); b <= 3; b++ {
			if a == b {
				continue
			}
			w, errno := ora.Start(fresh(), a, b)
			if errno != api.OK {
				t.Fatal(a, b, errno)
			}
			or1 := come(t, w, 0, b)
			w = expect(t, w, call{"First", b, or1}, api.OK)
			if e := last(w); e != (api.Event{Kind: api.EvRun, Proto: 2, Role: 2, A: a, B: b, M: 1<<31 + 4, N: 1<<31 + 7}) {
				t.Fatal(a, b, e)
			}
			expect(t, w, call{"First", b, or1}, api.ErrReplay)
			or2 := come(t, w, 1, api.Server)
			if or2 != (api.Msg{Kind: api.OR2, Run: 1<<31 + 4, A: a, B: b, Box: 1<<31 + 6, More: 1<<31 + 8}) {
				t.Fatal(a, b, or2)
			}
			w, errno = kso.Share(w, or2)
			if errno != api.OK {
				t.Fatal(a, b, errno)
			}
			or3 := come(t, w, 2, b)
			// A's share is none for B, nor is B's for A.
			expect(t, w, call{"Share", b, api.Msg{Kind: api.OR3, Run: or3.Run, Box: or3.More, More: or3.Box}}, api.ErrOpen)
			expect(t, w, call{"Share", a, or3}, api.ErrState)
			w = expect(t, w, call{"Share", b, or3}, api.OK)
			if e := last(w); e != (api.Event{Kind: api.EvCommit, Proto: 2, Role: 2, A: a, B: b, K: 1<<31 + 9, M: 1<<31 + 4, N: 1<<31 + 7}) {
				t.Fatal(a, b, e)
			}
			or4 := come(t, w, 3, a)
			if or4 != (api.Msg{Kind: api.OR4, Run: 1<<31 + 4, Box: 1<<31 + 11}) || or4.Box != or3.Box {
				t.Fatal(a, b, or4)
			}
			w, errno = ora.Share(w, a, or4)
			if e := last(w); errno != api.OK || e != (api.Event{Kind: api.EvCommit, Proto: 2, Role: 1, A: a, B: b, K: 1<<31 + 9, M: 1<<31 + 4, N: 1<<31 + 5}) {
				t.Fatal(a, b, errno, e)
			}
			if len(w.Log) != 5 || len(w.Net.Grams) != 4 || w.Draws.Next != 11 {
				t.Fatal(a, b, w.Log, w.Net.Grams, w.Draws.Next)
			}
			expect(t, w, call{"Share", b, or3}, api.ErrState)
			expect(t, w, call{"First", b, or1}, api.ErrReplay)
		}
	}
}

// P18.1, First: what I tell opens under my key alone, and with its label alone; it has the nonce ahead of the run, and A ahead of me.
func TestWhoOpensWhatITell(t *testing.T) {
	for i, world := range worlds() {
		v := expect(t, world, first(2, 1, 8001, 61), api.OK)
		list, next := world.Draws.List, world.Draws.Next
		handle := nth(list, next+1)
		keys := row{nth(list, next), 8001, 61}
		for _, p := range v.People {
			keys = append(keys, p.Key)
		}
		for _, key := range append(keys, edges...) {
			for label := range uint32(12) {
				p, ok := desk.Open(v, key, label, handle)
				if ok != (key == v.People[2].Key && label == api.LabelSecond) || ok && p != (api.Part{N: nth(list, next), M: 8001, A: 1, B: 2}) {
					t.Fatal(i, key, label, p, ok)
				}
			}
		}
	}
}

// P18.1, First: names: B is I, and A is another principal; the server is none, and nobody else has a name.
func TestNames(t *testing.T) {
	for i, world := range worlds() {
		many := uint32(world.Conf.People)
		tried := append(slices.Clone(edges), 4, 5, 6, 8, many, many+1, 1<<31|1, 1<<31|2, 257, 258, 1<<16|1)
		for _, p := range world.People {
			// A key, a clock and what was used are no names.
			tried = append(tried, p.Key, p.Clock)
		}
		for me := uint32(1); me <= many; me++ {
			for _, a := range tried {
				for _, b := range tried {
					if a > many && b > many {
						// Nobody's names both: one of them at a time is enough.
						continue
					}
					want := api.ErrName
					if b == me && a >= 1 && a <= many && a != me {
						want = api.OK
					}
					c := first(me, a, 8001, 61)
					c.m.B = b
					v, errno := check(t, world, c)
					if errno != want {
						t.Fatal(i, me, a, b, errno)
					}
					if want == api.OK && (last(v).A != a || last(v).B != me) {
						t.Fatal(i, me, a, b, last(v))
					}
				}
			}
		}
	}
}

// P18.1, First: a world of one principal has no pair.
func TestOnePrincipal(t *testing.T) {
	w := least()
	w.Conf.People, w.People = 1, w.People[:2]
	for a := range uint32(4) {
		for b := range uint32(4) {
			c := first(1, a, 8001, 61)
			c.m.B = b
			expect(t, w, c, api.ErrName)
		}
	}
}

// P18.1, First: the Run, and A's Box, may be whatever words, and are sent on as they came; whether something was sealed under that handle or not.
func TestFirstWords(t *testing.T) {
	for _, world := range worlds() {
		list, next := world.Draws.List, world.Draws.Next
		tried := append(slices.Clone(edges), nth(list, next), nth(list, next+1), nth(list, next+2), 31, 32, world.People[1].Key, world.People[2].Key)
		for _, id := range tried {
			for _, box := range tried {
				v, errno := check(t, world, first(2, 1, id, box))
				if slices.Contains(world.People[2].Used, id) {
					if errno != api.ErrReplay {
						t.Fatal(id, errno)
					}
					continue
				}
				m := come(t, v, len(world.Net.Grams), api.Server)
				if m != (api.Msg{Kind: api.OR2, Run: id, A: 1, B: 2, Box: box, More: nth(list, next+1)}) {
					t.Fatal(id, box, m)
				}
			}
		}
	}
}

// P18.1, First: one run more is begun while I have less than Conf's Runs, whatever runs they are; nobody else's count. Shares need no room for a run.
func TestRuns(t *testing.T) {
	for _, room := range []int{0, 1, 2, 3, 4, 31, 63, 64} {
		for have := max(0, room-3); have <= room; have++ {
			for kind := range 12 {
				w := ready()
				w.Conf.Runs = room
				for p := range w.People {
					// Those of the others are as many as there may be.
					w.People[p].Runs = slices.Repeat([]api.Run{run(kind)}, room)
				}
				w.People[1].Runs = nil
				for range have {
					w.People[1].Runs = append(w.People[1].Runs, api.Run{Proto: 1 + kind%2, Role: 1 + kind/2%2, State: 1 + kind/4, Peer: 2})
				}
				want := api.OK
				if have == room {
					want = api.ErrFull
				}
				if v := expect(t, w, first(1, 2, 8001, 61), want); want == api.OK && len(v.People[1].Runs) != have+1 {
					t.Fatal(room, have, v.People[1].Runs)
				}
				if room > 0 {
					expect(t, w, first(2, 1, 8001, 61), api.ErrFull)
				}
				if have < room {
					one, c := shared(w, 1, 2, 1)
					expect(t, one, c, api.OK)
				}
			}
		}
	}
}

// P18.1, First: a Run that is in my row Used was taken, wherever it stands there, and whether the row is full; else a full row has no room; nobody else's row counts.
func TestUsed(t *testing.T) {
	for _, room := range []int{0, 1, 2, 3, 4, 31, 63, 64} {
		for have := max(0, room-3); have <= room; have++ {
			w := ready()
			w.Conf.Used = room
			for p := range w.People {
				// The others' rows are full, and have the run, if they can.
				w.People[p].Used = words(room, 9)
			}
			w.People[1].Used = words(have, 8)
			for _, id := range append(append(slices.Clone(edges), words(room+2, 9)...), words(room+2, 8)...) {
				want := api.OK
				switch {
				case id > 8000 && id <= 8000+uint32(have):
					want = api.ErrReplay
				case have == room:
					want = api.ErrFull
				}
				got := expect(t, w, first(1, 2, id, 61), want)
				if l := got.People[1].Used; want == api.OK && (len(l) != have+1 || l[have] != id || !slices.Equal(l[:have], words(have, 8))) {
					t.Fatal(room, have, id, l)
				}
				for _, p := range []int{0, 2, 3} {
					if !slices.Equal(got.People[p].Used, words(room, 9)) {
						t.Fatal(room, have, id, got.People[p])
					}
				}
			}
		}
	}
}

// P18.1, First: what counts is my row Used, and nothing else that has the Run: no run of mine, nobody's nonce, key or handle.
func TestOnlyUsedCounts(t *testing.T) {
	w := hold(ready(), 1, waits(2, 8001, 8001))
	w.People[1].Runs[0].State = api.Done
	w = hold(w, 2, waits(1, 8001, 8001))
	w = sealed(w, 8001, 8001, api.LabelSecond, 8001, 8001, 2, 1)
	w.Regs[0], w.Leaks[0].K = row{8001}, 8001
	w.People[0].Used, w.People[2].Used, w.People[3].Used = row{8001}, row{8001}, row{8001}
	v := expect(t, w, first(1, 2, 8001, 8001), api.OK)
	if l := v.People[1].Runs; len(l) != 2 || l[1] != (api.Run{Proto: 2, Role: 2, Peer: 2, Mine: nth(w.Draws.List, 3), M: 8001, State: 1}) {
		t.Fatal(l)
	}
	v = w
	v.People = slices.Clone(w.People)
	v.People[1].Used = row{8001}
	expect(t, v, first(1, 2, 8001, 8001), api.ErrReplay)
}

// P18.1: first words need room for a seal and a frame, shares for a frame alone.
func TestRoom(t *testing.T) {
	for boxes := range 3 {
		for frames := range 3 {
			for entries := range 3 {
				for grams := range 4 {
					w := ready()
					w.Box.Sealed, w.Net.Grams = w.Box.Sealed[:entries], w.Net.Grams[:grams]
					one, c := shared(w, 2, 3, 1)
					for i, x := range []struct {
						w             api.World
						c             call
						boxes, frames int
					}{{w, first(2, 3, 8001, 61), 1, 1}, {one, c, 0, 1}} {
						v := x.w
						v.Conf.Box, v.Conf.Net = len(v.Box.Sealed)+boxes, grams+frames
						v.Box.Room, v.Net.Room = v.Conf.Box, v.Conf.Net
						want := api.ErrFull
						if boxes >= x.boxes && frames >= x.frames {
							want = api.OK
						}
						if got, errno := check(t, v, x.c); errno != want || errno != api.OK && !sameWorld(got, v) {
							t.Fatal(i, boxes, frames, entries, grams, errno)
						}
					}
				}
			}
		}
	}
}

// P18.1: the greatest rooms: with just the room that is asked for, and full, each by itself; of shares only the net's counts.
func TestGreatestRoom(t *testing.T) {
	w, c := greatest(), first(6, 5, 8001, 61)
	one, d := shared(w, 6, 5, 2)
	v := expect(t, w, c, api.OK)
	if p := v.People[6]; len(v.Net.Grams) != 64 || len(v.Net.Seen) != 301 || len(p.Runs) != 64 || len(p.Used) != 64 || len(v.Box.Sealed) != 64 {
		t.Fatal(len(v.Net.Grams), len(v.Net.Seen), len(p.Runs), len(p.Used), len(v.Box.Sealed))
	}
	expect(t, one, d, api.OK)
	for _, x := range []struct {
		full func(w *api.World)
		want api.Errno
	}{
		{func(w *api.World) { w.Net.Grams = append(w.Net.Grams, api.Gram{To: 99}) }, api.ErrFull},
		{func(w *api.World) {
			if len(w.Box.Sealed) < 64 {
				w.Box.Sealed = append(w.Box.Sealed, api.Sealed{Handle: 99})
			}
		}, api.OK},
		{func(w *api.World) { w.People[6].Used = append(w.People[6].Used, 99) }, api.OK},
		{func(w *api.World) {
			if len(w.People[6].Runs) < 64 {
				w.People[6].Runs = append(w.People[6].Runs, run(1))
			}
		}, api.OK},
	} {
		w, one := deep(w), deep(one)
		x.full(&w)
		x.full(&one)
		expect(t, w, c, api.ErrFull)
		expect(t, one, d, x.want)
	}
	// Nobody can begin any more; the run that waits can end, as soon as there is room for a frame.
	expect(t, v, first(6, 5, 8003, 61), api.ErrFull)
	expect(t, v, first(5, 6, 8003, 61), api.ErrFull)
	v.Box.Sealed[0] = api.Sealed{Handle: 5001, Key: v.People[6].Key, Label: api.LabelShareB, Plain: row{last(v).N, 77}}
	expect(t, v, share(6, 8001, 61, 5001), api.ErrFull)
	v.Net.Grams = v.Net.Grams[1:]
	expect(t, v, share(6, 8001, 61, 5001), api.OK)
}

// P18.1: clocks refuse nothing, those at their ends neither: mine stands in the event, and that is all; the run's time is no event's.
func TestClocks(t *testing.T) {
	ends := []uint32{0, 1, 2, 5, 1 << 20, 1<<20 + 1, 1 << 29, 1<<30 - 1, 1 << 30}
	for i, world := range worlds() {
		for _, now := range ends {
			for _, theirs := range ends {
				for _, window := range []uint32{0, 1, 1 << 20} {
					w := deep(world)
					w.Conf.Window = window
					for p := range w.People {
						w.People[p].Clock = theirs
					}
					w.People[2].Clock = now
					one, c := shared(w, 2, 1, 1)
					for _, v := range []api.World{expect(t, w, first(2, 1, 8001, 61), api.OK), expect(t, one, c, api.OK)} {
						if e := last(v); e.Clock != now || e.T != 0 || v.People[2].Clock != now || v.People[1].Clock != theirs {
							t.Fatal(i, now, theirs, window, e)
						}
					}
				}
			}
		}
	}
}

// turned tells what becomes of a call when an entry is another one.
func turned(t *testing.T, w api.World, c call, at int, s api.Sealed, ok bool) {
	t.Helper()
	w.Box.Sealed = slices.Clone(w.Box.Sealed)
	w.Box.Sealed[at] = s
	want := api.ErrOpen
	if ok {
		want = api.OK
	}
	if _, errno := check(t, w, c); errno != want {
		t.Fatalf("%+v of %+v: %d, want %d", c, s, errno, want)
	}
}

// P18.1, Share: More opens under one key, with one label, and of so many words; of each all that may be wrong is tried.
func TestBoxes(t *testing.T) {
	for _, world := range worlds() {
		w, c := shared(world, 2, 1, 1)
		at := len(world.Box.Sealed)
		right := w.Box.Sealed[at]
		for label := range uint32(13) {
			s := right
			s.Label = label
			turned(t, w, c, at, s, label == right.Label)
		}
		keys := append(slices.Clone(edges), right.Key^1, right.Key^1<<31, 7001, 8001, 9001, 93, 95)
		for _, p := range w.People {
			keys = append(keys, p.Key, p.Clock)
		}
		for _, key := range keys {
			s := right
			s.Key = key
			turned(t, w, c, at, s, key == right.Key)
		}
		for _, handle := range append(slices.Clone(edges), right.Handle^1, right.Handle^1<<31) {
			if !slices.ContainsFunc(w.Box.Sealed, func(s api.Sealed) bool { return s.Handle == handle }) {
				s := right
				s.Handle = handle
				turned(t, w, c, at, s, false)
			}
		}
		for count := range 65 {
			s := right
			s.Plain = words(count, 1)
			copy(s.Plain, right.Plain)
			turned(t, w, c, at, s, count == len(right.Plain))
		}
	}
}

// P18.1, Share: handles in the message: More of nothing that was sealed, and of other entries; that mine stands as Box is no help.
func TestHandlesAsked(t *testing.T) {
	for _, world := range worlds() {
		w, c := shared(world, 2, 1, 1)
		tried := append(slices.Clone(edges), 5001, 5002, 5001|1<<31, 6001, 7001, 8001, 9001)
		for i := range 3 {
			tried = append(tried, nth(world.Draws.List, world.Draws.Next+i))
		}
		for _, s := range w.Box.Sealed {
			tried = append(tried, s.Handle, s.Key)
		}
		for _, more := range tried {
			c.m.More = more
			want := api.ErrOpen
			if more == 5001 {
				want = api.OK
			}
			for _, box := range (row{6001, 5001}) {
				c.m.Box = box
				expect(t, w, c, want)
			}
		}
	}
}

// P18.1, Share: A's Box isn't looked at, and is sent on as it came: whether nobody sealed it, or it was sealed for A, for me, or for anyone else.
func TestBoxIsSentOn(t *testing.T) {
	for _, world := range worlds()[:3] {
		w, c := shared(world, 2, 1, 1)
		tried := append(slices.Clone(edges), 5001, 5002, 5003, 6001, 7001, 8001, 9001)
		if world.Conf.Box > len(w.Box.Sealed)+2 {
			w = sealed(w, 5002, w.People[1].Key, api.LabelShareA, 7009, 9001)
			w = sealed(w, 5003, w.People[3].Key, api.LabelShareB, 7001, 9001)
		}
		for _, s := range w.Box.Sealed {
			tried = append(tried, s.Handle)
		}
		for _, box := range tried {
			c.m.Box = box
			v := expect(t, w, c, api.OK)
			if m := come(t, v, len(world.Net.Grams), 1); m != (api.Msg{Kind: api.OR4, Run: 8001, Box: box}) {
				t.Fatal(box, m)
			}
		}
	}
}

// P18.1, Share: of those who may be me the one whose run it is takes it, and nobody else.
func TestWhoseRun(t *testing.T) {
	for _, world := range worlds()[:3] {
		for me := uint32(1); me <= 3; me++ {
			for other := uint32(1); other <= 3; other++ {
				w, c := shared(world, me, 1+me%3, 1)
				c.me = other
				want := api.ErrState
				if other == me {
					want = api.OK
				}
				expect(t, w, c, want)
				if other == me {
					continue
				}
				// The other one's own run, with the same M and Mine, has a share of its own: a key of its own has each of them in these worlds.
				w = hold(w, other, waits(me, 7001, 8001))
				expect(t, w, c, api.ErrOpen)
				w = sealed(w, 5002, w.People[other].Key, api.LabelShareB, 7001, 9002)
				if world.Conf.Box < len(w.Box.Sealed) {
					w.Box.Sealed = w.Box.Sealed[1:]
				}
				c.m.More = 5002
				if v := expect(t, w, c, api.OK); last(v).B != other || last(v).A != me || last(v).K != 9002 {
					t.Fatal(last(v))
				}
			}
		}
	}
	// With like long-term keys, runs and nonces the share is for both; each ends its own run.
	w, c := shared(ready(), 1, 2, 1)
	w = hold(w, 3, waits(2, 7001, 8001))
	w.People[3].Key = w.People[1].Key
	v := expect(t, w, c, api.OK)
	c.me = 3
	if v = expect(t, v, c, api.OK); v.People[1].Runs[0].State != api.Done || v.People[3].Runs[2].State != api.Done {
		t.Fatal(v.People)
	}
}

// P18.1, Share: which run waits for it: one ProtoOR, RoleB, Waiting, with the message's Run as M; whatever else it has, but its Mine.
func TestShareState(t *testing.T) {
	for _, world := range worlds() {
		w, c := shared(world, 1, 2, 1)
		at := len(w.People[1].Runs) - 1
		right := w.People[1].Runs[at]
		with := func(r api.Run) {
			t.Helper()
			v := w
			v.People = slices.Clone(w.People)
			v.People[1].Runs = slices.Clone(w.People[1].Runs)
			v.People[1].Runs[at] = r
			want := api.ErrState
			if r.Proto == 2 && r.Role == 2 && r.State == 1 && r.M == 8001 {
				want = api.ErrOpen
				if r.Mine == 7001 {
					want = api.OK
				}
			}
			got := expect(t, v, c, want)
			r.K, r.State = 9001, 3
			if want == api.OK && got.People[1].Runs[at] != r {
				t.Fatal(got.People[1].Runs[at], r)
			}
		}
		for proto := 1; proto <= 2; proto++ {
			for role := 1; role <= 2; role++ {
				for state := 1; state <= 3; state++ {
					r := right
					r.Proto, r.Role, r.State = proto, role, state
					with(r)
				}
			}
		}
		for _, word := range append(slices.Clone(edges), 9001, 8001, 8000, 8002, 8001|1<<31, 7001, 7000, 7002, 7001|1<<31) {
			for place := range 6 {
				r := right
				*[]*uint32{&r.Peer, &r.Mine, &r.Their, &r.M, &r.K, &r.T}[place] = word
				with(r)
			}
		}
		v := w
		v.People = slices.Clone(w.People)
		v.People[1].Runs = w.People[1].Runs[:at]
		expect(t, v, c, api.ErrState)
	}
}

// P18.1, Share: my row Used says nothing: a run that waits takes its shares, whether its M was noted there or not.
func TestShareAsksNoUsed(t *testing.T) {
	for _, l := range []row{nil, {8001}, {7001}, {9001}, words(5, 8)} {
		w, c := shared(ready(), 1, 2, 1)
		w.People[1].Used = l
		if v := expect(t, w, c, api.OK); !slices.Equal(v.People[1].Used, l) {
			t.Fatal(l, v.People[1].Used)
		}
	}
}

// P18.1, Share: the run's M is the message's Run, whatever that is, and no other word.
func TestShareIdentifiers(t *testing.T) {
	for _, world := range worlds() {
		w, c := shared(world, 2, 1, 1)
		of := len(world.People[2].Runs)
		tried := append(slices.Clone(edges), nth(world.Draws.List, world.Draws.Next), 5001, 6001, 7001, 8001, 8000, 8002, 8001|1<<31, 9001, 93, 95, w.People[2].Key)
		for _, m := range tried {
			for _, named := range tried {
				w.People[2].Runs[of].M, c.m.Run = m, named
				want := api.ErrState
				if m == named {
					want = api.OK
				}
				v := expect(t, w, c, want)
				if want != api.OK {
					continue
				}
				if or4 := come(t, v, len(world.Net.Grams), 1); last(v).M != m || or4.Run != m || or4.Box != 6001 {
					t.Fatal(m, last(v), or4)
				}
			}
		}
	}
}

// P18.1, Share: it has the run's Mine, whatever that is, and no other word.
func TestShareNonces(t *testing.T) {
	for _, world := range worlds() {
		w, c := shared(world, 2, 1, 1)
		at, of := len(world.Box.Sealed), len(world.People[2].Runs)
		tried := append(slices.Clone(edges), nth(world.Draws.List, world.Draws.Next), 5001, 7001, 7000, 7002, 7001|1<<31, 8001, 9001, 93, 95, w.People[2].Key)
		for _, mine := range tried {
			for _, n := range tried {
				w.People[2].Runs[of].Mine = mine
				w.Box.Sealed[at].Plain[0] = n
				want := api.ErrOpen
				if mine == n {
					want = api.OK
				}
				if v := expect(t, w, c, want); want == api.OK && last(v).N != n {
					t.Fatal(n, last(v))
				}
			}
		}
	}
}

// P18.1, Share: it has whatever key, which is the run's then, and stands in the event; whatever the run had as one.
func TestShareKeys(t *testing.T) {
	for _, world := range worlds() {
		w, c := shared(world, 2, 1, 1)
		at, of := len(world.Box.Sealed), len(world.People[2].Runs)
		for _, key := range append(slices.Clone(edges), 5001, 7001, 8001, 9001, 95, w.People[1].Key, w.People[2].Key) {
			for _, had := range (row{0, 95, key, math.MaxUint32}) {
				w.Box.Sealed[at].Plain[1], w.People[2].Runs[of].K = key, had
				if v := expect(t, w, c, api.OK); last(v).K != key || v.People[2].Runs[of].K != key {
					t.Fatal(key, had, last(v), v.People[2].Runs[of])
				}
			}
		}
	}
}

// P18.1, Share: a peer may be whatever name, of nobody too: it stands in the event, and the frame is on its way there; nothing is drawn or sealed.
func TestPeers(t *testing.T) {
	for _, world := range worlds() {
		for _, peer := range append(slices.Clone(edges), 4, 5, 6, 200) {
			w, c := shared(world, 2, peer, 1)
			v := expect(t, w, c, api.OK)
			if e := last(v); e.A != peer || e.B != 2 || v.Net.Grams[len(world.Net.Grams)].To != peer || len(v.Box.Sealed) != len(w.Box.Sealed) || v.Draws.Next != world.Draws.Next {
				t.Fatal(peer, e)
			}
		}
	}
}

// P18.1, Share: of several runs the first counts that waits for it, with that M; whether the share has its Mine, or another one's of that M.
func TestShareFirst(t *testing.T) {
	right := waits(2, 7001, 8001)
	var wrong []api.Run
	for _, turn := range []func(r *api.Run){
		func(r *api.Run) { r.Proto = 1 }, func(r *api.Run) { r.Role = 1 }, func(r *api.Run) { r.State = 2 }, func(r *api.Run) { r.State = 3 },
		func(r *api.Run) { r.M = 8000 }, func(r *api.Run) { r.M, r.Mine = 7001, 8001 }, func(r *api.Run) { r.M, r.Their = 0, 8001 },
	} {
		r := right
		turn(&r)
		wrong = append(wrong, r)
	}
	for _, one := range wrong {
		for _, two := range wrong {
			for at := range 3 {
				l := slices.Insert([]api.Run{one, two}, at, right)
				checkCommits(t, l, at, api.OK)
				// Another one that waits with the same M stands behind it, with the same Mine, or with its own.
				alike, own := waits(3, 7001, 8001), waits(3, 7002, 8001)
				for behind := at + 1; behind <= 3; behind++ {
					m := slices.Insert(slices.Clone(l), behind, alike)
					checkCommits(t, m, at, api.OK)
					m[behind] = own
					checkCommits(t, m, at, api.OK)
					// The share is the second one's: the first one counts, all the same.
					m[at], m[behind] = own, right
					checkCommits(t, m, at, api.ErrOpen)
				}
			}
		}
	}
}

// checkCommits tells that of a row of runs the one at a place commits, and no other one; or that none does.
func checkCommits(t *testing.T, l []api.Run, at int, errno api.Errno) {
	t.Helper()
	w, c := shared(ready(), 1, 2, 1)
	w.People[1].Runs = slices.Clone(l)
	v := expect(t, w, c, errno)
	want := slices.Clone(l)
	if errno == api.OK {
		want[at].K, want[at].State = 9001, api.Done
	}
	if !slices.Equal(v.People[1].Runs, want) {
		t.Fatal(v.People[1].Runs, want)
	}
	if errno == api.OK && v.Net.Grams[3].To != l[at].Peer {
		t.Fatal(v.Net.Grams, l[at])
	}
}

// P18.1, Share: the same shares once more are of no run that waits; but for a second one with the same M and Mine they are.
func TestShareTwice(t *testing.T) {
	w, c := shared(ready(), 1, 2, 1)
	expect(t, expect(t, w, c, api.OK), c, api.ErrState)
	v := expect(t, hold(w, 1, waits(3, 7001, 8001)), c, api.OK)
	if l := v.People[1].Runs; l[0].State != api.Done || l[1].State != api.Waiting || last(v).A != 2 {
		t.Fatal(l, last(v))
	}
	v = expect(t, v, c, api.OK)
	if l := v.People[1].Runs; l[0].State != api.Done || l[1].State != api.Done || last(v).A != 3 {
		t.Fatal(l, last(v))
	}
	expect(t, v, c, api.ErrState)
	// With the same M and another nonce the second one waits for its own share, while the first one stands ahead of it.
	v = sealed(hold(w, 1, waits(3, 7002, 8001)), 5002, w.People[1].Key, api.LabelShareB, 7002, 9002)
	expect(t, v, share(1, 8001, 61, 5002), api.ErrOpen)
	v = expect(t, v, c, api.OK)
	expect(t, v, c, api.ErrOpen)
	v = expect(t, v, share(1, 8001, 61, 5002), api.OK)
	if l := v.People[1].Runs; l[0].K != 9001 || l[1].K != 9002 || l[1].State != api.Done || last(v).N != 7002 {
		t.Fatal(l, last(v))
	}
}

// P18.1: several runs of one principal, with one peer and with several, and of two with each other, one inside the other.
func TestSeveral(t *testing.T) {
	w := fresh()
	w.Draws.List = nil
	w.Conf.Net, w.Net.Room, w.Conf.Box, w.Box.Room = 30, 30, 30, 30
	pairs := [][2]uint32{{2, 1}, {3, 1}, {2, 1}, {1, 2}, {2, 1}, {1, 3}}
	var begun []api.Event
	for i, x := range pairs {
		id, box, mine := uint32(80+i), uint32(60+i), 3<<30+uint32(3+2*i)
		w = expect(t, w, first(x[1], x[0], id, box), api.OK)
		expect(t, w, first(x[1], x[0], id, box), api.ErrReplay)
		if begun = append(begun, last(w)); last(w) != (api.Event{Kind: 3, Proto: 2, Role: 2, A: x[0], B: x[1], M: id, N: mine}) {
			t.Fatal(i, last(w))
		}
		if or2 := come(t, w, i, 0); or2 != (api.Msg{Kind: api.OR2, Run: id, A: x[0], B: x[1], Box: box, More: mine + 1}) {
			t.Fatal(i, or2)
		}
	}
	// The room for runs is full, and so is that for used words; a run that was taken is told, all the same.
	expect(t, w, first(1, 3, 90, 61), api.ErrFull)
	expect(t, w, first(1, 3, 84, 61), api.ErrReplay)
	for i, at := range []int{4, 0, 3, 2, 5, 1} {
		w = oneOfSeveral(t, w, begun, at)
		if e := last(w); e != (api.Event{Kind: 4, Proto: 2, Role: 2, A: pairs[at][0], B: pairs[at][1], K: uint32(70 + at), M: uint32(80 + at), N: begun[at].N}) {
			t.Fatal(i, at, e)
		}
		if or4 := come(t, w, 6+i, pairs[at][0]); or4 != (api.Msg{Kind: api.OR4, Run: uint32(80 + at), Box: 33}) {
			t.Fatal(i, at, or4)
		}
	}
	for _, p := range w.People {
		if slices.ContainsFunc(p.Runs, func(r api.Run) bool { return r.State != api.Done || r.T != 0 || r.Their != 0 }) {
			t.Fatal(p)
		}
	}
	if !slices.Equal(w.People[1].Used, row{80, 81, 82, 84}) || !slices.Equal(w.People[2].Used, row{83}) || !slices.Equal(w.People[3].Used, row{85}) || len(w.People[0].Used) != 0 {
		t.Fatal(w.People)
	}
}

// oneOfSeveral has the shares come for one of several runs, behind all that is another run's.
func oneOfSeveral(t *testing.T, w api.World, begun []api.Event, at int) api.World {
	t.Helper()
	me, id := begun[at].B, begun[at].M
	key := w.People[me].Key
	for other, e := range begun {
		if other != at {
			// Another run's nonce is no help, whoever's it is.
			expect(t, sealed(w, 90, key, api.LabelShareB, e.N, 70), share(me, id, 33, 90), api.ErrOpen)
		}
	}
	w = sealed(w, uint32(50+at), key, api.LabelShareB, begun[at].N, uint32(70+at))
	for other, e := range begun {
		if other == at {
			continue
		}
		// Nor is the share for a run of another identifier.
		want := api.ErrState
		if slices.ContainsFunc(w.People[me].Runs, func(r api.Run) bool { return r.M == e.M && r.State == api.Waiting }) {
			want = api.ErrOpen
		}
		expect(t, w, share(me, e.M, 33, uint32(50+at)), want)
	}
	w = expect(t, w, share(me, id, 33, uint32(50+at)), api.OK)
	expect(t, w, share(me, id, 33, uint32(50+at)), api.ErrState)
	return w
}

// fault is what may stand in the way of a call; with OK it is what doesn't.
type fault struct {
	name  string
	errno api.Errno
	make  func(w *api.World, c *call)
}

// netFull and what stands beside it are what becomes of both calls, in ready.
func netFull(w *api.World, c *call)  { w.Conf.Net, w.Net.Room = 3, 3 }
func boxFull(w *api.World, c *call)  { w.Conf.Box, w.Box.Room = len(w.Box.Sealed), len(w.Box.Sealed) }
func clockEnd(w *api.World, c *call) { w.People[2].Clock = 1 << 30 }
func runsFull(w *api.World, c *call) { w.Conf.Runs = len(w.People[2].Runs) }
func usedFull(w *api.World, c *call) {
	w.People[2].Used = append(slices.Clone(w.People[2].Used), words(5-len(w.People[2].Used), 3)...)
}

// faults are what may stand in the way of each call, of 2 with 3 in ready, in the chapter's order; errors of one kind stand beside each other.
var faults = map[string][]fault{
	"First": {
		{"B isn't I", api.ErrName, func(w *api.World, c *call) { c.m.B = 1 }},
		{"A is me", api.ErrName, func(w *api.World, c *call) { c.m.A = 2 }},
		{"run taken", api.ErrReplay, func(w *api.World, c *call) { w.People[2].Used[0] = 8001 }},
		{"used words full", api.ErrFull, usedFull},
		{"as many runs", api.ErrFull, runsFull},
		{"box full", api.ErrFull, boxFull},
		{"net full", api.ErrFull, netFull},
		{"handle used", api.ErrReplay, func(w *api.World, c *call) { w.Box.Sealed[1].Handle = 1<<31 | 25 }},
		{"clock at its end", api.OK, clockEnd},
		{"Box is mine", api.OK, func(w *api.World, c *call) { c.m.Box = 31; w.Box.Sealed[0].Key = w.People[2].Key }},
	},
	"Share": {
		{"another run", api.ErrState, func(w *api.World, c *call) { c.m.Run++ }},
		{"another protocol", api.ErrState, func(w *api.World, c *call) { w.People[2].Runs[3].Proto = api.ProtoNS }},
		{"another role", api.ErrState, func(w *api.World, c *call) { w.People[2].Runs[3].Role = api.RoleA }},
		{"another state", api.ErrState, func(w *api.World, c *call) { w.People[2].Runs[3].State = api.Running }},
		{"another label", api.ErrOpen, func(w *api.World, c *call) { w.Box.Sealed[2].Label = api.LabelShareA }},
		{"another key", api.ErrOpen, func(w *api.World, c *call) { w.Box.Sealed[2].Key++ }},
		{"another nonce", api.ErrOpen, func(w *api.World, c *call) { w.Box.Sealed[2].Plain[0]++ }},
		{"net full", api.ErrFull, netFull},
		{"as many runs", api.OK, runsFull},
		{"box full", api.OK, boxFull},
		{"clock at its end", api.OK, clockEnd},
		{"used words full", api.OK, usedFull},
	},
}

// tried answers, of each call, a world in which it is right, for 2, of 3.
func tried(what string) (api.World, call) {
	if what == "First" {
		return deep(ready()), first(2, 3, 8001, 61)
	}
	return shared(deep(ready()), 2, 3, 1)
}

// P18.1: of several errors that apply the one is told that the chapter names first, and nothing is done; for each set of what may stand in the way.
func TestFirstError(t *testing.T) {
	for what, list := range faults {
		for set := range 1 << len(list) {
			w, c := tried(what)
			want := api.OK
			var names []string
			for i, f := range list {
				if set>>i&1 == 0 {
					continue
				}
				f.make(&w, &c)
				names = append(names, f.name)
				if want == api.OK {
					want = f.errno
				}
			}
			was := deep(w)
			got, errno := check(t, w, c)
			if errno != want {
				t.Errorf("%s, %q: %d, want %d", what, names, errno, want)
			}
			if want != api.OK && !sameWorld(got, was) {
				t.Errorf("%s, %q: another world", what, names)
			}
		}
	}
}

// P18.1, First: names that aren't right, each kind of them, are told ahead of all else.
func TestNamesAheadOfAll(t *testing.T) {
	for _, x := range [][2]uint32{{1, 0}, {1, 1}, {1, 3}, {3, 1}, {2, 1}, {2, 2}, {0, 2}, {4, 2}, {1, 4}, {math.MaxUint32, 2}, {1, math.MaxUint32}} {
		w, _ := tried("First")
		for _, f := range faults["First"][2:8] {
			f.make(&w, nil)
			c := first(2, x[0], 8001, 61)
			c.m.B = x[1]
			expect(t, w, c, api.ErrName)
		}
	}
}

// P18.1, First: N is drawn, and is no handle: whatever stands in the box, whatever was used, and whatever other runs have it, the run begins; and so it does where the Run itself is that word. Share draws nothing.
func TestNonceLikeOther(t *testing.T) {
	w := ready()
	n := nth(w.Draws.List, w.Draws.Next)
	w.Box.Sealed[0].Handle = n
	w.People[0].Used, w.People[1].Used = row{n}, row{n}
	w = hold(w, 1, waits(2, n, 8001))
	v := expect(t, w, first(1, 2, 8001, n), api.OK)
	if l := v.People[1].Runs; l[1] != (api.Run{Proto: 2, Role: 2, Peer: 2, Mine: n, M: 8001, State: 1}) {
		t.Fatal(l)
	}
	// Of two runs alike the first one takes the share.
	v = expect(t, sealed(v, 50, v.People[1].Key, api.LabelShareB, n, 70), share(1, 8001, 61, 50), api.OK)
	if l := v.People[1].Runs; l[0].State != api.Done || l[1].State != api.Waiting || v.Draws.Next != 5 {
		t.Fatal(l)
	}
	expect(t, w, first(1, 2, n, 61), api.ErrReplay)
	w.People[1].Used = nil
	v = expect(t, w, first(1, 2, n, 61), api.OK)
	if e := last(v); e.M != n || e.N != n {
		t.Fatal(e)
	}
}

// P18.1, First: runs of any kind that I have, with the run's own words, too, are in nobody's way, and stay as they are.
func TestBesideOtherRuns(t *testing.T) {
	w := ready()
	n := nth(w.Draws.List, w.Draws.Next)
	for proto := 1; proto <= 2; proto++ {
		for role := 1; role <= 2; role++ {
			for state := 1; state <= 3; state++ {
				r := api.Run{Proto: proto, Role: role, Peer: 2, Mine: n, Their: 93, M: 8001, K: 95, T: 96, State: state}
				v := expect(t, hold(w, 1, r), first(1, 2, 8001, 61), api.OK)
				if l := v.People[1].Runs; len(l) != 2 || l[0] != r || l[1] != (api.Run{Proto: 2, Role: 2, Peer: 2, Mine: n, M: 8001, State: 1}) {
					t.Fatal(r, l)
				}
			}
		}
	}
}

// P18.1, First: a draw that is a handle already can't be that of what I tell: w comes back, with nothing drawn, noted or begun.
func TestHandlesUsed(t *testing.T) {
	for _, x := range []struct {
		name   string
		list   row
		handle uint32
		want   api.Errno
	}{
		{"unlike", row{40, 41}, 31, api.OK},
		{"the nonce is one", row{40, 41}, 1<<31 | 40, api.OK},
		{"the handle is one", row{40, 41}, 1<<31 | 41, api.ErrReplay},
		{"the next one's is one", row{40, 41, 42}, 1<<31 | 42, api.OK},
		{"without the draw's bit it is another one", row{40, 41}, 41, api.OK},
		{"with the bit in the list", row{40, 1<<31 | 41}, 1<<31 | 41, api.ErrReplay},
		{"both draws are alike", row{40, 40}, 41, api.OK},
		{"both draws are alike, and are one", row{40, 40}, 1<<31 | 40, api.ErrReplay},
		{"behind the list's end", row{}, 3<<30 | 1, api.ErrReplay},
		{"behind it by one", row{40}, 3<<30 | 1, api.ErrReplay},
		{"behind it, unlike", row{}, 3 << 30, api.OK},
		{"the run's word is one", row{40, 41}, 8001, api.OK},
		{"the message's Box is one", row{40, 41}, 61, api.OK},
	} {
		for at := range 2 {
			w := deep(ready())
			w.Draws = api.Draws{List: x.list}
			w.Box.Sealed[0].Handle = 33
			w.Box.Sealed[at].Handle = x.handle
			got, errno := check(t, w, first(1, 2, 8001, 61))
			if errno != x.want || errno != api.OK && (got.Draws.Next != 0 || len(got.Box.Sealed) != 2 || len(got.Log) != 2 || len(got.People[1].Runs) != 0 || len(got.People[1].Used) != 0 || len(got.Net.Grams) != 3 || len(got.Net.Seen) != 4) {
				t.Errorf("%s: %d, want %d: %+v", x.name, errno, x.want, got)
			}
		}
	}
}

// P18.1: draws wherever Next is: ahead of the list's end, behind it, and near the last Next that a world may have.
func TestDraws(t *testing.T) {
	var nexts []int
	for i := range 15 {
		nexts = append(nexts, i, 1<<20-i)
	}
	for _, next := range nexts {
		w := deep(ready())
		w.Draws.Next = next
		n, handle := nth(w.Draws.List, next), nth(w.Draws.List, next+1)
		v := expect(t, w, first(1, 2, 8001, 61), api.OK)
		r, s := v.People[1].Runs[0], v.Box.Sealed[2]
		if e := last(v); v.Draws.Next != next+2 || e.N != n || r.Mine != n || s.Handle != handle || s.Plain[0] != n {
			t.Error(next, v.Draws.Next, e, r, s)
		}
		one, c := shared(w, 1, 2, 1)
		if v = expect(t, one, c, api.OK); v.Draws.Next != next {
			t.Error(next, v.Draws.Next)
		}
		w.Box.Sealed[0].Handle = handle
		expect(t, w, first(1, 2, 8001, 61), api.ErrReplay)
	}
}

// P18.1: a principal that is corrupt, or whose key is like another one's, or 0, takes what comes, as any other; and so it does from such a one.
func TestPrincipalsAsTheyAre(t *testing.T) {
	for _, keys := range [][2]uint32{{0, 0}, {5, 5}, {0, 1 << 31}, {math.MaxUint32, 7}, {1<<31 | 24, 1<<31 | 25}, {9001, 9001}} {
		for _, corrupt := range []bool{false, true} {
			w := ready()
			w.People[0].Corrupt, w.People[1].Corrupt, w.People[2].Corrupt = corrupt, corrupt, !corrupt
			w.People[1].Key, w.People[2].Key = keys[0], keys[1]
			v := expect(t, w, first(1, 2, 8001, 61), api.OK)
			if v.Box.Sealed[2].Key != keys[0] {
				t.Error(keys, v.Box.Sealed[2])
			}
			one, c := shared(w, 1, 2, 1)
			expect(t, one, c, api.OK)
			// A long-term key that is shared is a key.
			one.Box.Sealed[2].Plain[1] = keys[0]
			expect(t, one, c, api.OK)
		}
	}
}

// P18.1: whatever else a world has: all is as the chapter's words say, in worlds that are put together by chance.
func TestByChance(t *testing.T) {
	r := rand.New(rand.NewSource(18))
	told := map[string]int{}
	for range 80000 {
		w, c := chance(r)
		_, errno := check(t, w, c)
		told[fmt.Sprint(c.what, errno)]++
	}
	for _, one := range []string{"First0", "First5", "First8", "First10", "Share0", "Share6", "Share9", "Share10"} {
		if told[one] < 100 {
			t.Error(one, told)
		}
	}
	if len(told) != 8 {
		t.Error(told)
	}
}

// chance puts a world together that has its form, and a call.
func chance(r *rand.Rand) (api.World, call) {
	c := api.Conf{Window: uint32(r.Intn(5)), People: 1 + r.Intn(6), Box: r.Intn(9), Used: r.Intn(5), Runs: r.Intn(7), Net: r.Intn(6), Regs: 1 + r.Intn(3)}
	w := api.World{Conf: c, Box: api.Box{Room: c.Box}, Net: api.Net{Room: c.Net}, Regs: make([]row, c.Regs)}
	for range r.Intn(12) {
		w.Draws.List = append(w.Draws.List, uint32(r.Intn(12)))
	}
	w.Draws.Next = r.Intn(9)
	for i := range r.Intn(c.Net + 1) {
		w.Net.Grams = append(w.Net.Grams, api.Gram{To: uint32(r.Intn(9)), Words: words(r.Intn(20), i)})
	}
	for i := range r.Intn(6) {
		w.Net.Seen = append(w.Net.Seen, words(r.Intn(20), i))
		w.Log = append(w.Log, event(r.Intn(9)))
	}
	for name := range c.People + 1 {
		p := someone(uint32(name), r.Intn(3), 0, 0)
		for _, word := range r.Perm(6)[:r.Intn(c.Used+1)] {
			p.Used = append(p.Used, uint32(word))
		}
		for range r.Intn(c.Runs + 1) {
			p.Runs = append(p.Runs, anyRun(r))
		}
		if r.Intn(9) == 0 {
			p.Clock = 1 << 30
		}
		w.People = append(w.People, p)
	}
	me := uint32(1 + r.Intn(c.People))
	for i, handle := range r.Perm(12)[:r.Intn(c.Box+1)] {
		w.Box.Sealed = append(w.Box.Sealed, anyEntry(r, w.People[me], 1<<31|uint32(handle), i))
	}
	if r.Intn(2) == 0 {
		d := first(me, uint32(r.Intn(c.People+2)), uint32(r.Intn(8)), uint32(r.Intn(12)))
		if r.Intn(9) == 0 {
			d.m.B = uint32(r.Intn(c.People + 2))
		}
		return w, d
	}
	m := uint32(r.Intn(3))
	if len(w.Box.Sealed) == 0 || r.Intn(9) == 0 {
		return w, share(me, m, uint32(r.Intn(12)), uint32(r.Intn(12))|1<<31)
	}
	return w, share(me, m, uint32(r.Intn(12)), w.Box.Sealed[r.Intn(len(w.Box.Sealed))].Handle)
}

// anyRun answers a run that may be, most often one that waits for shares, of few words.
func anyRun(r *rand.Rand) api.Run {
	one := api.Run{Proto: 2, Role: 2, Peer: uint32(1 + r.Intn(2)), Mine: uint32(r.Intn(2)), Their: uint32(r.Intn(3)), M: uint32(r.Intn(3)), K: uint32(r.Intn(3)), T: uint32(r.Intn(5)), State: 1}
	if r.Intn(6) == 0 {
		one.Proto = 1
	}
	if r.Intn(6) == 0 {
		one.Role = 1
	}
	if r.Intn(4) == 0 {
		one.State = 2 + r.Intn(2)
	}
	return one
}

// anyEntry answers an entry, most often a share for somebody.
func anyEntry(r *rand.Rand, me api.Person, handle uint32, number int) api.Sealed {
	if r.Intn(5) == 0 {
		return api.Sealed{Handle: handle, Key: uint32(r.Intn(9)), Label: uint32(r.Intn(12)), Plain: words(r.Intn(6), number)}
	}
	return api.Sealed{Handle: handle, Key: me.Key, Label: 8, Plain: row{uint32(r.Intn(3)), uint32(r.Intn(9))}}
}

// taker is who takes an identifier, and that.
type taker struct {
	b, m uint32
}

// P18.2: whatever comes, and however often: an identifier is taken once at most by each, and a run commits once at most, with the A and the nonce with which it was begun; and commits are events.
func TestOnce(t *testing.T) {
	r := rand.New(rand.NewSource(19))
	told := map[string]int{}
	for range 60 {
		w := fresh()
		w.Draws.List = nil
		w.Conf.Box, w.Box.Room, w.Conf.Net, w.Net.Room, w.Conf.Runs, w.Conf.Used = 64, 64, 64, 64, 18, 18
		took := map[taker]api.Event{}
		done := map[taker]bool{}
		for number := range uint32(300) {
			w = goOn(r, w, number)
			was, c := w, someCall(r, w)
			v, errno := check(t, w, c)
			w = v
			who := taker{c.me, c.m.Run}
			if errno != api.OK {
				if _, ok := took[who]; ok && errno == api.ErrReplay || done[who] && errno == api.ErrState {
					told[fmt.Sprint(c.what, errno)]++
				}
				continue
			}
			e := last(w)
			checkStates(t, was, w, e)
			switch old, ok := took[who]; e.Kind {
			case api.EvRun:
				if ok || e.M != who.m || e.B != who.b {
					t.Fatal("taken twice", e, old)
				}
				took[who] = e
			case api.EvCommit:
				told["commits"]++
				if done[who] {
					t.Fatal("committed twice", e)
				}
				done[who] = true
				if !ok || old.A != e.A || old.B != e.B || old.M != e.M || old.N != e.N {
					t.Fatal("committed to what wasn't taken", e, old)
				}
			}
		}
		checkTaken(t, w, took, done)
	}
	for _, one := range []string{"First8", "Share9", "commits"} {
		if told[one] < 500 {
			t.Error(one, told)
		}
	}
}

// checkTaken tells that used words and runs are just those that the events tell of.
func checkTaken(t *testing.T, w api.World, took map[taker]api.Event, done map[taker]bool) {
	t.Helper()
	all := 0
	for _, p := range w.People {
		all += len(p.Used)
		if len(p.Runs) != len(p.Used) {
			t.Fatal(p)
		}
		for i, run := range p.Runs {
			who := taker{p.Name, run.M}
			if _, ok := took[who]; !ok || p.Used[i] != run.M || done[who] != (run.State == api.Done) {
				t.Fatal("no event tells of it", p.Name, run)
			}
		}
	}
	if all != len(took) {
		t.Fatal(all, len(took))
	}
}

// goOn has clocks go on, frames and entries be taken away, and shares be sealed, right ones and others.
func goOn(r *rand.Rand, w api.World, number uint32) api.World {
	w = deep(w)
	me := &w.People[1+r.Intn(3)]
	me.Clock = min(me.Clock+uint32(r.Intn(2)), 1<<30)
	w.Net.Grams = w.Net.Grams[:min(len(w.Net.Grams), 60)]
	w.Box.Sealed = w.Box.Sealed[max(0, len(w.Box.Sealed)-40):]
	if len(me.Runs) == 0 {
		return w
	}
	// Of one run there may be many shares, with keys that are few; now and then one is for somebody else.
	one, key := me.Runs[r.Intn(len(me.Runs))], me.Key
	if r.Intn(6) == 0 {
		key = w.People[1+r.Intn(3)].Key
	}
	return sealed(w, 5000+number, key, api.LabelShareB, one.Mine, 9000+uint32(r.Intn(20)))
}

// someCall answers first words, of identifiers that are few, or shares, most often one that was sealed of late, for whom it is, of the run for which it is.
func someCall(r *rand.Rand, w api.World) call {
	me := uint32(1 + r.Intn(3))
	if len(w.Box.Sealed) == 0 || r.Intn(3) == 0 {
		return first(me, uint32(1+r.Intn(3)), 8000+uint32(r.Intn(20)), uint32(r.Intn(9)))
	}
	s := w.Box.Sealed[max(0, len(w.Box.Sealed)-1-r.Intn(6))]
	var m uint32
	for _, p := range w.People[1:] {
		for _, one := range p.Runs {
			if one.Mine == s.Plain[0] || r.Intn(60) == 0 {
				me, m = p.Name, one.M
			}
		}
	}
	return share(me, m, uint32(r.Intn(9)), s.Handle)
}

// checkStates tells that each run is as it was, but that of a commit, which was Waiting, is Done, and has its key; that none leaves its row; and that no used word leaves its.
func checkStates(t *testing.T, was, now api.World, e api.Event) {
	t.Helper()
	ended := 0
	for i, p := range was.People {
		if !slices.Equal(p.Used, now.People[i].Used[:len(p.Used)]) {
			t.Fatal(p.Used, now.People[i].Used)
		}
		for j, old := range p.Runs {
			r := now.People[i].Runs[j]
			if r == old {
				continue
			}
			ended++
			over := old
			over.K, over.State = e.K, api.Done
			if r != over || old.State != api.Waiting || e.Kind != api.EvCommit || e.B != p.Name || e.M != r.M || e.N != r.Mine {
				t.Fatal(old, r, e)
			}
		}
	}
	if ended != 1 && e.Kind == api.EvCommit {
		t.Fatal(ended, e)
	}
}

// P18.2: one identifier in two rows of Used: each takes it once, and commits by its own share; the other one's run goes on by itself.
func TestOnceEach(t *testing.T) {
	w := expect(t, fresh(), first(1, 2, 8001, 61), api.OK)
	one := last(w)
	w = expect(t, w, first(3, 2, 8001, 61), api.OK)
	two := last(w)
	for _, me := range (row{1, 3}) {
		for _, a := range (row{1, 2, 3}) {
			if a != me {
				expect(t, w, first(me, a, 8001, 62), api.ErrReplay)
			}
		}
	}
	w = sealed(sealed(w, 50, w.People[1].Key, api.LabelShareB, one.N, 70), 51, w.People[3].Key, api.LabelShareB, two.N, 71)
	expect(t, w, share(1, 8001, 61, 51), api.ErrOpen)
	expect(t, w, share(3, 8001, 61, 50), api.ErrOpen)
	w = expect(t, w, share(1, 8001, 61, 50), api.OK)
	w = expect(t, w, share(3, 8001, 61, 51), api.OK)
	expect(t, w, share(1, 8001, 61, 50), api.ErrState)
	expect(t, w, share(3, 8001, 61, 51), api.ErrState)
	// Neither takes the identifier any more, though its run is Done; a third one does.
	expect(t, w, first(1, 2, 8001, 61), api.ErrReplay)
	expect(t, w, first(3, 2, 8001, 61), api.ErrReplay)
	expect(t, w, first(2, 1, 8001, 61), api.OK)
}

// P18.2: other shares of the same run, with another key, sealed as rightly, find it Done.
func TestAnotherKeyComesLate(t *testing.T) {
	for _, world := range worlds()[:2] {
		w, c := shared(world, 1, 2, 1)
		w = sealed(w, 5002, w.People[1].Key, api.LabelShareB, 7001, 9002)
		for _, more := range (row{5001, 5002}) {
			c.m.More = more
			v := expect(t, w, c, api.OK)
			key := last(v).K
			for _, late := range (row{5001, 5002}) {
				c.m.More = late
				v = expect(t, v, c, api.ErrState)
			}
			if r := v.People[1].Runs[len(v.People[1].Runs)-1]; key != 4000+more || r.K != key || r.State != api.Done {
				t.Fatal(key, r)
			}
		}
	}
}

// calls are calls of which in most places one or another is done, and the others aren't, for each reason.
func calls() []call {
	other := first(1, 2, 8003, 61)
	other.m.B = 2
	return []call{
		first(1, 2, 8003, 61), first(2, 3, 8003, 5001), first(1, 1, 8003, 61), first(1, 0, 8003, 61), first(2, 9, 8003, 61), other, first(1, 2, 8005, 61), first(2, 1, 8002, 9),
		share(1, 8001, 6001, 5001), share(2, 8002, 6002, 5002), share(2, 8001, 6001, 5001), share(1, 8009, 6001, 5001), share(1, 8001, 6001, 5002), share(1, 8001, 6001, 5003), share(1, 8001, 5001, 9), share(2, 9, 9, 9),
	}
}

// several answers worlds in which 1 and 2 wait for shares that have come, and 1 has taken the identifier 8005.
func several() []api.World {
	great := greatest()
	great.Box.Sealed, great.Net.Grams = great.Box.Sealed[:58], great.Net.Grams[:60]
	for p := range great.People {
		great.People[p].Runs, great.People[p].Used = great.People[p].Runs[:60], great.People[p].Used[:60]
	}
	l := []api.World{fresh(), ready(), great}
	for i, w := range l {
		w.People[1].Used = append(w.People[1].Used, 8005)
		w, _ = shared(w, 1, 2, 1)
		w, _ = shared(w, 2, 3, 2)
		// A share of another nonce, for 1.
		l[i] = sealed(w, 5003, w.People[1].Key, api.LabelShareB, 7009, 70)
	}
	return l
}

// places answers worlds in which something is done, and such in which nothing is, for each reason.
func places() []api.World {
	one, _ := shared(least(), 1, 2, 1)
	l := append(several(), one, least())
	for _, f := range []func(w *api.World, c *call){
		netFull, boxFull, runsFull, clockEnd, usedFull,
		func(w *api.World, c *call) { w.Box.Sealed[0].Handle = nth(w.Draws.List, w.Draws.Next+1) },
	} {
		w := deep(several()[1])
		f(&w, nil)
		l = append(l, w)
	}
	return l
}

// P18.3: its tests hang on places in which each answer comes.
func TestPlaces(t *testing.T) {
	told := map[string]int{}
	for _, w := range places() {
		for _, c := range calls() {
			if !c.may(w) {
				continue
			}
			_, errno := check(t, w, c)
			told[fmt.Sprint(c.what, errno)]++
		}
	}
	if len(told) != 8 {
		t.Error(told)
	}
}

// fillNew fills the lists of an answer that didn't stay as they were in w: those that have more than they had, and what they have anew.
func fillNew(v, w api.World, c call) {
	if len(v.Log) == len(w.Log) {
		return
	}
	if c.what == "First" {
		fill(v.Box.Sealed[len(w.Box.Sealed)].Plain, 6)
		fill(v.Box.Sealed, api.Sealed{Handle: 6})
		fill(v.People[c.me].Used, 6)
	}
	fill(v.Net.Grams[len(w.Net.Grams)].Words, 6)
	fill(v.Net.Seen[len(w.Net.Seen)], 6)
	fill(v.Net.Grams, api.Gram{To: 6})
	fill(v.Net.Seen, row{6})
	fill(v.People[c.me].Runs, run(6))
	fill(v.People, api.Person{Name: 66})
	fill(v.Log, event(6))
}

// P18.3: no call changes a world, nor what stands ahead of its lists and in the room behind them; a write into what an answer has anew is seen neither in the world nor in another answer.
func TestHandedInStays(t *testing.T) {
	for i, world := range places() {
		for _, c := range calls() {
			name := fmt.Sprint(i, c)
			w, h := roomy(world)
			one, _ := c.do(w)
			want := deep(one)
			two, _ := c.do(w)
			if !h.isAsItWas() || !sameWorld(w, world) {
				t.Fatal(name, "changes what is handed in")
			}
			fillNew(one, w, c)
			if !h.isAsItWas() || !sameWorld(w, world) {
				t.Fatal(name, "a write into an answer is seen in what was handed in")
			}
			if !sameWorld(two, want) {
				t.Fatal(name, "a write into one answer is seen in another one")
			}
			fillNew(two, w, c)
			if three, _ := c.do(w); !sameWorld(three, want) {
				t.Fatal(name, "a write into one answer is seen in a later one")
			}
		}
	}
}

// P18.3: answers of one world go on apart: what is done in one isn't done in another.
func TestAnswersGoOnApart(t *testing.T) {
	begin := []call{first(1, 2, 8003, 61), first(2, 3, 8003, 61), share(1, 8001, 6001, 5001), share(2, 8002, 6002, 5002)}
	for i, world := range several() {
		for _, c := range begin {
			for _, d := range begin {
				w, _ := roomy(world)
				one, errno := c.do(w)
				two, errno2 := d.do(w)
				if errno != api.OK || errno2 != api.OK {
					t.Fatal(i, c, d, errno, errno2)
				}
				want, wantTwo := deep(one), deep(two)
				for _, e := range calls() {
					three, _ := e.do(one)
					four, _ := e.do(two)
					fillNew(three, one, e)
					fillNew(four, two, e)
					if !sameWorld(w, world) || !sameWorld(one, want) || !sameWorld(two, wantTwo) {
						t.Fatal(i, c, d, e)
					}
				}
				fillNew(one, w, c)
				if !sameWorld(w, world) || !sameWorld(two, wantTwo) {
					t.Fatal(i, c, d, "a later change of one answer")
				}
			}
		}
	}
}

// P18.3: what an answer has anew doesn't change when what was handed in does.
func TestLaterChangeOfTheWorld(t *testing.T) {
	for room := range 4 {
		for what := range faults {
			w, c := tried(what)
			// Once there is no room behind the lists, then there is.
			w.Box.Sealed, w.Net.Grams, w.Net.Seen = with(w.Box.Sealed, room), with(w.Net.Grams, room), with(w.Net.Seen, room)
			w.Log, w.People = with(w.Log, room), with(w.People, room)
			me := &w.People[2]
			me.Runs, me.Used = with(me.Runs, room), with(me.Used, room)
			want, wantErrno := c.retold(w)
			got, errno := c.do(w)
			fill(me.Runs, run(6))
			if what == "First" {
				// Shares leave these as they are, and may share them.
				fill(w.Box.Sealed, api.Sealed{Handle: 6})
				fill(me.Used, 6)
			}
			fill(w.Net.Grams, api.Gram{To: 6})
			fill(w.Net.Seen, row{6})
			fill(w.Log, event(6))
			fill(w.People, api.Person{Name: 66})
			if errno != api.OK || errno != wantErrno || !sameWorld(got, want) {
				t.Errorf("%s, %d: %d: %+v, want %+v", what, room, errno, got, want)
			}
		}
	}
}

// with answers a copy of a list that has so much room behind it.
func with[T any](l []T, room int) []T {
	m := make([]T, len(l), len(l)+room)
	copy(m, l)
	return m
}

// Rule 8: what is answered hangs on what is handed in now, and on no call ahead of it.
func TestNothingIsKept(t *testing.T) {
	for _, c := range calls() {
		want, wantErrno := c.do(several()[1])
		want = deep(want)
		for _, w := range places() {
			for _, d := range calls() {
				d.do(w)
			}
		}
		if got, errno := c.do(several()[1]); errno != wantErrno || !sameWorld(got, want) {
			t.Fatal(c, errno, got, want)
		}
	}
}

// Rule 5: nil and empty lists are one.
func TestNilAndEmpty(t *testing.T) {
	w, v := fresh(), fresh()
	w.Box.Sealed, w.Net.Grams, w.Net.Seen, w.Log, w.Leaks = nil, nil, nil, nil, nil
	v.Box.Sealed, v.Net.Grams, v.Net.Seen, v.Log, v.Leaks = []api.Sealed{}, []api.Gram{}, []row{}, []api.Event{}, []api.Leak{}
	for p := range w.People {
		w.People[p].Used, w.People[p].Runs = nil, nil
		v.People[p].Used, v.People[p].Runs = row{}, []api.Run{}
	}
	for _, c := range []call{first(1, 2, 8001, 61), share(1, 8001, 61, 5001)} {
		a, errno := check(t, w, c)
		if b := expect(t, v, c, errno); !sameWorld(a, b) {
			t.Error(a, b)
		}
	}
	one, c := shared(w, 1, 2, 1)
	two, _ := shared(v, 1, 2, 1)
	if a, b := expect(t, one, c, api.OK), expect(t, two, c, api.OK); !sameWorld(a, b) {
		t.Error(a, b)
	}
}

// P1 of all layers: calls end, and don't panic, at worlds, names and messages too of which nothing is promised.
func TestEveryCallEnds(t *testing.T) {
	l := append(places(), api.World{}, api.World{People: []api.Person{{Name: 1}, {Name: 2}}, Conf: api.Conf{Runs: 1, Used: 1}, Box: api.Box{Room: 9}, Net: api.Net{Room: 9}})
	for _, n := range []int{math.MinInt, -3, -1, 0, 1, 65, math.MaxInt - 3, math.MaxInt} {
		w := several()[1]
		w.Conf = api.Conf{Window: math.MaxUint32, People: n, Box: n, Used: n, Runs: n, Net: n, Regs: n}
		w.Box.Room, w.Net.Room, w.Draws.Next = n, n, n
		v := deep(several()[1])
		v.Draws.Next, v.People[1].Clock, v.People[2].Clock = n, math.MaxUint32, math.MaxUint32
		u := several()[1]
		u.Draws.Next = n
		// Runs that may not be, beside some that wait; used words that are there twice.
		s := hold(hold(several()[1], 1, api.Run{}), 2, api.Run{Proto: n, Role: n, State: n})
		s.People[1].Used = row{8005, 8005}
		l = append(l, w, v, u, s)
	}
	for _, w := range l {
		for _, me := range edges {
			for _, b := range append(slices.Clone(edges), 5001, 5002, 5003) {
				for kind := range uint32(11) {
					for _, m := range (row{me, b, 8001, 8002, 8003}) {
						orb.First(w, me, api.Msg{Kind: kind, Run: m, A: b, B: me, Nonce: b, Box: b, More: b})
						orb.Share(w, me, api.Msg{Kind: kind, Run: m, A: me, B: b, Nonce: me, Box: b, More: b})
					}
				}
			}
		}
	}
}
