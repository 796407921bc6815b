package nsb_test

import (
	"fmt"
	"math"
	"math/rand"
	"reflect"
	"slices"
	"testing"

	"chamberlain/api"
	"chamberlain/desk"
	"chamberlain/ksn"
	"chamberlain/msg"
	"chamberlain/nsa"
	"chamberlain/nsb"
	"chamberlain/people"
)

type row = []uint32

// edges are words that are easily taken for each other, or for nothing.
var edges = row{0, 1, 2, 3, 7, 255, 256, math.MaxInt32, 1 << 30, 1 << 31, 1<<31 | 99, 3 << 30, math.MaxUint32 - 1, math.MaxUint32}

// sameWorld and what it asks tell whether two are like each other in all that they have; nil and empty lists are one.
func sameWorld(a, b api.World) bool {
	return a.Conf == b.Conf && a.Draws.Next == b.Draws.Next && slices.Equal(a.Draws.List, b.Draws.List) &&
		a.Box.Room == b.Box.Room && slices.EqualFunc(a.Box.Sealed, b.Box.Sealed, sameEntry) &&
		a.Net.Room == b.Net.Room && slices.EqualFunc(a.Net.Grams, b.Net.Grams, sameGram) && sameRows(a.Net.Seen, b.Net.Seen) &&
		slices.EqualFunc(a.People, b.People, samePerson) && slices.Equal(a.Log, b.Log) && sameRows(a.Regs, b.Regs) && slices.Equal(a.Leaks, b.Leaks)
}

func sameEntry(a, b api.Sealed) bool {
	return a.Handle == b.Handle && a.Key == b.Key && a.Label == b.Label && slices.Equal(a.Plain, b.Plain)
}

func sameGram(a, b api.Gram) bool {
	return a.To == b.To && slices.Equal(a.Words, b.Words)
}

func sameRows(a, b []row) bool {
	return slices.EqualFunc(a, b, slices.Equal[row])
}

func samePerson(a, b api.Person) bool {
	return a.Name == b.Name && a.Key == b.Key && a.Clock == b.Clock && a.Corrupt == b.Corrupt && slices.Equal(a.Used, b.Used) && slices.Equal(a.Runs, b.Runs)
}

// words answers so many words, unlike those of another number.
func words(count, number int) row {
	var l row
	for i := range count {
		l = append(l, uint32(1000*number+i+1))
	}
	return l
}

// run answers a run that may be, like no other one of another number; none of them waits for a back.
func run(number int) api.Run {
	n := uint32(number)
	return api.Run{Proto: api.ProtoOR, Role: 1 + number/2%2, Peer: n + 1, Mine: n + 2, Their: n + 3, M: n + 4, K: n + 5, T: n + 6, State: 1 + number%3}
}

// someone answers a person with so many used words and runs.
func someone(name uint32, number, used, many int) api.Person {
	p := api.Person{Name: name, Key: uint32(number + 5), Clock: uint32(number + 6), Used: words(used, number), Corrupt: number%2 == 1}
	for i := range many {
		p.Runs = append(p.Runs, run(number+i))
	}
	return p
}

// event answers an event that is like no other one of another number in anything.
func event(number int) api.Event {
	n := uint32(number)
	return api.Event{Kind: number, Proto: number + 1, Role: number + 2, A: n + 3, B: n + 4, K: n + 5, T: n + 6, M: n + 7, N: n + 8, Clock: n + 9}
}

// fresh answers a new world of three principals, in whose lists stands nothing; its next draws are 2^31 + 4, 5, 6 and so on.
func fresh() api.World {
	list := row{1, 2, 3, 4, 5, 6, 7, 8, 9, 10, 11, 12, 13, 14, 15}
	l, d, _ := people.New(3, api.Draws{List: list})
	return api.World{
		Conf:  api.Conf{Window: 5, People: 3, Box: 16, Used: 4, Runs: 4, Net: 6, Regs: 1},
		Draws: d, Box: api.Box{Room: 16}, Net: api.Net{Room: 6}, People: l, Regs: []row{nil},
	}
}

// ready answers a world that has its form, something in each of its lists, and room for more of everything.
func ready() api.World {
	return api.World{
		Conf:  api.Conf{Window: 9, People: 3, Box: 9, Used: 5, Runs: 6, Net: 6, Regs: 2},
		Draws: api.Draws{List: row{21, 22, 23, 24, 1<<31 | 25, 26, 27, 28, 29, 30}, Next: 3},
		Box:   api.Box{Room: 9, Sealed: []api.Sealed{{Handle: 31, Key: 41, Label: 3, Plain: words(3, 51)}, {Handle: 32, Key: 42, Label: 99, Plain: row{}}}},
		Net: api.Net{Room: 6, Grams: []api.Gram{{To: 1, Words: words(2, 61)}, {To: 200, Words: nil}, {To: 0, Words: words(7, 62)}},
			Seen: []row{words(2, 61), words(7, 62), {}, words(3, 63)}},
		People: []api.Person{someone(0, 70, 2, 1), someone(1, 71, 0, 0), someone(2, 74, 1, 3), someone(3, 77, 2, 2)},
		Log:    []api.Event{event(80), event(81)},
		Regs:   []row{words(4, 90), {}},
		Leaks:  []api.Leak{{K: 95, At: 1}, {K: 96, At: 2}},
	}
}

// greatest answers a world whose every limit is reached, but that there is room for just one run and one used word of each, one frame, a ticket or a back, and an echo.
func greatest() api.World {
	w := api.World{
		Conf:  api.Conf{Window: 1 << 20, People: 6, Box: 64, Used: 64, Runs: 64, Net: 64, Regs: 8},
		Draws: api.Draws{Next: 1<<20 - 2},
		Box:   api.Box{Room: 64},
		Net:   api.Net{Room: 64},
	}
	for i := range 62 {
		w.Box.Sealed = append(w.Box.Sealed, api.Sealed{Handle: uint32(i), Plain: words(64, i)})
	}
	for i := range 63 {
		w.Net.Grams = append(w.Net.Grams, api.Gram{To: uint32(i), Words: words(64, i)})
	}
	for i := range 300 {
		w.Net.Seen = append(w.Net.Seen, words(64, i))
	}
	for i := range 7 {
		w.People = append(w.People, someone(uint32(i), i, 63, 63))
		w.People[i].Clock = 1<<30 - 1
	}
	for i := range 8 {
		w.Regs = append(w.Regs, words(64, i))
	}
	return w
}

// least answers a world that has no more than it must so that a ticket can be taken, or a back.
func least() api.World {
	return api.World{
		Conf: api.Conf{People: 2, Box: 2, Used: 1, Runs: 1, Net: 1, Regs: 1},
		Box:  api.Box{Room: 2}, Net: api.Net{Room: 1},
		People: []api.Person{{}, {Name: 1}, {Name: 2}}, Regs: []row{nil},
	}
}

// worlds answers worlds that have their form, in which there is room for one run more, and for what a ticket needs.
func worlds() []api.World {
	return []api.World{fresh(), ready(), greatest(), least()}
}

// hold answers a world in which somebody has one run more, behind its others.
func hold(w api.World, name uint32, r api.Run) api.World {
	w.People = slices.Clone(w.People)
	w.People[name].Runs = append(slices.Clip(w.People[name].Runs), r)
	return w
}

// sealed answers a world with one entry more.
func sealed(w api.World, handle, key, label uint32, plain ...uint32) api.World {
	w.Box.Sealed = append(slices.Clip(w.Box.Sealed), api.Sealed{Handle: handle, Key: key, Label: label, Plain: plain})
	return w
}

// timed answers a world in which somebody's clock is another one.
func timed(w api.World, name, clock uint32) api.World {
	w.People = slices.Clone(w.People)
	w.People[name].Clock = clock
	return w
}

// call is one of the two calls, with what is handed in beside a world.
type call struct {
	what string
	me   uint32
	m    api.Msg
}

func ticket(me, box uint32) call {
	return call{what: "Ticket", me: me, m: api.Msg{Kind: api.NS3, Box: box}}
}

func back(me, box uint32) call {
	return call{what: "Back", me: me, m: api.Msg{Kind: api.NS5, Box: box}}
}

// do does a call.
func (c call) do(w api.World) (api.World, api.Errno) {
	if c.what == "Ticket" {
		return nsb.Ticket(w, c.me, c.m)
	}
	return nsb.Back(w, c.me, c.m)
}

// may asks whether something is promised of a call.
func (c call) may(w api.World) bool {
	return desk.Form(w) && c.me > 0 && c.me < uint32(len(w.People)) && msg.May(c.m)
}

// waits answers a run that waits for a back; what a run has beside that is whatever it was.
func waits(peer, mine, key, t uint32) api.Run {
	return api.Run{Proto: api.ProtoNS, Role: api.RoleB, Peer: peer, Mine: mine, Their: 93, M: 94, K: key, T: t, State: api.Running}
}

// offered answers a world in which a ticket comes to a principal; unlike numbers have unlike words.
func offered(w api.World, me, peer, number uint32) (api.World, call) {
	w = sealed(w, 5000+number, w.People[me].Key, api.LabelTicket, 9000+number, peer, w.People[me].Clock)
	return w, ticket(me, 5000+number)
}

// answered answers a world in which a principal waits for a back, and that back comes.
func answered(w api.World, me, peer, number uint32) (api.World, call) {
	w = hold(w, me, waits(peer, 7000+number, 9000+number, w.People[me].Clock))
	w = sealed(w, 5000+number, 9000+number, api.LabelBack, 7000+number)
	return w, back(me, 5000+number)
}

// hall is memory in which lists stand, with something ahead of each and behind it.
type hall struct {
	stays []func() bool
}

// in answers a list like the one handed in, which stands in a hall.
func in[T any](h *hall, l []T, odd T) []T {
	whole := slices.Concat([]T{odd}, l, []T{odd, odd, odd})
	was := slices.Clone(whole)
	// Lists that the list has stand in the hall themselves.
	h.stays = append(h.stays, func() bool { return reflect.DeepEqual(whole, was) })
	return whole[1 : 1+len(l)]
}

// each answers a list of lists, all of which stand in a hall, and so does the list.
func each(h *hall, l []row) []row {
	var m []row
	for _, one := range l {
		m = append(m, in(h, one, 7))
	}
	return in(h, m, row{8})
}

// roomy answers a world like the one handed in, which shares nothing with it, and all of whose lists stand in a hall.
func roomy(w api.World) (api.World, *hall) {
	h := &hall{}
	var entries []api.Sealed
	for _, s := range w.Box.Sealed {
		s.Plain = in(h, s.Plain, 7)
		entries = append(entries, s)
	}
	var grams []api.Gram
	for _, g := range w.Net.Grams {
		g.Words = in(h, g.Words, 7)
		grams = append(grams, g)
	}
	var folk []api.Person
	for _, p := range w.People {
		p.Used, p.Runs = in(h, p.Used, 7), in(h, p.Runs, run(8))
		folk = append(folk, p)
	}
	w.Draws.List = in(h, w.Draws.List, 7)
	w.Box.Sealed = in(h, entries, api.Sealed{Handle: 8})
	w.Net.Grams, w.Net.Seen = in(h, grams, api.Gram{To: 8}), each(h, w.Net.Seen)
	w.People = in(h, folk, api.Person{Name: 8})
	w.Log, w.Leaks = in(h, w.Log, event(8)), in(h, w.Leaks, api.Leak{K: 8})
	w.Regs = each(h, w.Regs)
	return w, h
}

// deep answers a copy of a world that shares nothing with it.
func deep(w api.World) api.World {
	v, _ := roomy(w)
	return v
}

// isAsItWas asks whether nothing in a hall was written into.
func (h *hall) isAsItWas() bool {
	return !slices.ContainsFunc(h.stays, func(stays func() bool) bool { return !stays() })
}

// fill fills a list, and the room behind its length, with something else.
func fill[T any](l []T, odd T) {
	for i := range l[:cap(l)] {
		l[:cap(l)][i] = odd
	}
}

// nth tells chapter 4's words anew: the i-th draw of a list.
func nth(list row, i int) uint32 {
	if i >= len(list) {
		return 3221225472 | uint32(i)
	}
	return list[i] | 2147483648
}

// opened tells the chapter's words anew: the words of an entry that opens, if there are so many.
func opened(w api.World, key, label, handle uint32, count int) (row, bool) {
	for _, s := range w.Box.Sealed {
		if s.Handle == handle {
			return s.Plain, s.Key == key && s.Label == label && len(s.Plain) == count
		}
	}
	return nil, false
}

// isFresh tells chapter 5's words anew, in whole numbers.
func isFresh(now, t, window uint32) bool {
	if now >= 1<<30 || t >= 1<<30 {
		return false
	}
	apart := int64(now) - int64(t)
	return max(apart, -apart) <= int64(window)
}

// retold tells the chapter's words anew; it answers in new memory.
func (c call) retold(w api.World) (api.World, api.Errno) {
	if c.what == "Ticket" {
		return taken(deep(w), c.me, c.m.Box)
	}
	return committed(deep(w), c.me, c.m.Box)
}

// taken tells of a ticket that comes.
func taken(v api.World, name, box uint32) (api.World, api.Errno) {
	me := &v.People[name]
	l, ok := opened(v, me.Key, 3, box, 3)
	if !ok {
		return v, 6
	}
	k, a, t := l[0], l[1], l[2]
	if a == 0 || a >= uint32(len(v.People)) || a == name {
		return v, 5
	}
	if !isFresh(me.Clock, t, v.Conf.Window) {
		return v, 7
	}
	if slices.Contains(me.Used, k) {
		return v, 8
	}
	if len(me.Used) == v.Conf.Used || len(me.Runs) == v.Conf.Runs || len(v.Box.Sealed) == v.Box.Room || len(v.Net.Grams) == v.Net.Room {
		return v, 10
	}
	n, echo := nth(v.Draws.List, v.Draws.Next), nth(v.Draws.List, v.Draws.Next+1)
	if slices.ContainsFunc(v.Box.Sealed, func(s api.Sealed) bool { return s.Handle == echo }) {
		return v, 8
	}
	v.Draws.Next += 2
	v.Box.Sealed = append(v.Box.Sealed, api.Sealed{Handle: echo, Key: k, Label: 4, Plain: row{n}})
	me.Used = append(me.Used, k)
	me.Runs = append(me.Runs, api.Run{Proto: 1, Role: 2, Peer: a, Mine: n, K: k, T: t, State: 2})
	v.Log = append(v.Log, api.Event{Kind: 3, Proto: 1, Role: 2, A: a, B: name, K: k, T: t, N: n, Clock: me.Clock})
	words := row{1, 1, 4, 6, 1, echo}
	v.Net.Grams = append(v.Net.Grams, api.Gram{To: a, Words: words})
	v.Net.Seen = append(v.Net.Seen, words)
	return v, 0
}

// committed tells of a back that comes.
func committed(v api.World, name, box uint32) (api.World, api.Errno) {
	me := &v.People[name]
	at := slices.IndexFunc(me.Runs, func(r api.Run) bool {
		l, ok := opened(v, r.K, 5, box, 1)
		return ok && l[0] == r.Mine && r.Proto == 1 && r.Role == 2 && r.State == 2
	})
	if at < 0 {
		return v, 6
	}
	r := &me.Runs[at]
	if !isFresh(me.Clock, r.T, v.Conf.Window) {
		return v, 7
	}
	r.State = 3
	v.Log = append(v.Log, api.Event{Kind: 4, Proto: 1, Role: 2, A: r.Peer, B: name, K: r.K, T: r.T, N: r.Mine, Clock: me.Clock})
	return v, 0
}

// check holds a call against the chapter's words, and answers what it did.
func check(t *testing.T, w api.World, c call) (api.World, api.Errno) {
	t.Helper()
	if !c.may(w) {
		t.Fatalf("nothing is promised of %+v, %+v", w, c)
	}
	want, wantErrno := c.retold(w)
	got, errno := c.do(w)
	if errno != wantErrno || !sameWorld(got, want) {
		t.Fatalf("%+v = %d, want %d: %+v, want %+v", c, errno, wantErrno, got, want)
	}
	if fits := got.Draws.Next <= 1<<20; desk.Form(got) != fits {
		t.Fatalf("%+v: its form", c)
	}
	return got, errno
}

// expect is check, where it is known what is to be told; it tells, too, that w comes back beside an error.
func expect(t *testing.T, w api.World, c call, want api.Errno) api.World {
	t.Helper()
	got, errno := check(t, w, c)
	if errno != want {
		t.Fatalf("%+v = %d, want %d", c, errno, want)
	}
	if errno != api.OK && !sameWorld(got, w) {
		t.Fatalf("%+v = %d, and another world", c, errno)
	}
	return got
}

// last answers the last event of a log.
func last(w api.World) api.Event {
	return w.Log[len(w.Log)-1]
}

// P16.1: a run of a new world, both of its steps written out.
func TestWrittenOut(t *testing.T) {
	const nonce, echo, key = 1<<31 + 4, 1<<31 + 5, 1<<31 + 77
	w := fresh()
	w.People[0].Clock, w.People[1].Clock, w.People[3].Clock = 7, 20, 9
	w = sealed(w, 50, w.People[1].Key, api.LabelTicket, key, 3, 16)
	got, errno := nsb.Ticket(w, 1, api.Msg{Kind: api.NS3, Box: 50})
	want := deep(w)
	want.Draws.Next = 5
	want.Box.Sealed = append(want.Box.Sealed, api.Sealed{Handle: echo, Key: key, Label: api.LabelEcho, Plain: row{nonce}})
	want.People[1].Used = row{key}
	want.People[1].Runs = []api.Run{{Proto: api.ProtoNS, Role: api.RoleB, Peer: 3, Mine: nonce, K: key, T: 16, State: api.Running}}
	want.Log = []api.Event{{Kind: api.EvRun, Proto: api.ProtoNS, Role: api.RoleB, A: 3, B: 1, K: key, T: 16, N: nonce, Clock: 20}}
	want.Net.Grams = []api.Gram{{To: 3, Words: row{1, 1, 4, 6, 1, echo}}}
	want.Net.Seen = []row{{1, 1, 4, 6, 1, echo}}
	if errno != api.OK || !sameWorld(got, want) {
		t.Fatalf("%d: %+v, want %+v", errno, got, want)
	}
	w = timed(sealed(got, 51, key, api.LabelBack, nonce), 1, 21)
	got, errno = nsb.Back(w, 1, api.Msg{Kind: api.NS5, Box: 51})
	want = deep(w)
	want.People[1].Runs[0].State = api.Done
	want.Log = append(want.Log, api.Event{Kind: api.EvCommit, Proto: api.ProtoNS, Role: api.RoleB, A: 3, B: 1, K: key, T: 16, N: nonce, Clock: 21})
	if errno != api.OK || !sameWorld(got, want) {
		t.Fatalf("%d: %+v, want %+v", errno, got, want)
	}
}

// P16.1: the chapter's example: the same ticket twice; and the same key in a ticket of another handle, of another A, of another time.
func TestSameTicketTwice(t *testing.T) {
	for i, world := range worlds() {
		w, c := offered(world, 2, 1, 1)
		v := expect(t, w, c, api.OK)
		expect(t, v, c, api.ErrReplay)
		// No room is left in some of these worlds: that the key was used is told ahead of that.
		v.Box.Sealed = v.Box.Sealed[:len(world.Box.Sealed)]
		me := v.People[2]
		for _, a := range (row{1, 3}) {
			for _, time := range (row{me.Clock, me.Clock - 1}) {
				want := api.ErrReplay
				if a >= uint32(len(v.People)) {
					want = api.ErrName
				} else if !isFresh(me.Clock, time, v.Conf.Window) {
					want = api.ErrStale
				}
				expect(t, sealed(v, 50000, me.Key, api.LabelTicket, 9001, a, time), ticket(2, 50000), want)
			}
		}
		if l := v.People[2].Runs; l[len(l)-1].K != 9001 {
			t.Error(i, l)
		}
	}
}

// P16.1: what the server grants, and the initiator hands on, is taken, and commits both; whoever is asked by whom. Draws are numbered as they are made.
func TestWholeRun(t *testing.T) {
	for a := uint32(1); a <= 3; a++ {
		for b := uint32(1); b <= 3; b++ {
			if a == b {
				continue
			}
			w, errno := nsa.Start(fresh(), a, b)
			if errno != api.OK {
				t.Fatal(a, b, errno)
			}
			w, errno = ksn.Grant(w, come(t, w, 0, api.Server))
			if errno != api.OK {
				t.Fatal(a, b, errno)
			}
			w, errno = nsa.Grant(w, a, come(t, w, 1, a))
			if errno != api.OK {
				t.Fatal(a, b, errno)
			}
			ns3 := come(t, w, 2, b)
			w = expect(t, w, call{"Ticket", b, ns3}, api.OK)
			if e := last(w); ns3.Box != 1<<31+6 || e != (api.Event{Kind: api.EvRun, Proto: 1, Role: 2, A: a, B: b, K: 1<<31 + 5, N: 1<<31 + 8}) {
				t.Fatal(a, b, ns3, e)
			}
			expect(t, w, call{"Ticket", b, ns3}, api.ErrReplay)
			ns4 := come(t, w, 3, a)
			if ns4 != (api.Msg{Kind: api.NS4, Box: 1<<31 + 9}) {
				t.Fatal(a, b, ns4)
			}
			w, errno = nsa.Echo(w, a, ns4)
			if errno != api.OK {
				t.Fatal(a, b, errno)
			}
			ns5 := come(t, w, 4, b)
			w = expect(t, w, call{"Back", b, ns5}, api.OK)
			if e := last(w); ns5.Box != 1<<31+10 || e != (api.Event{Kind: api.EvCommit, Proto: 1, Role: 2, A: a, B: b, K: 1<<31 + 5, N: 1<<31 + 8}) {
				t.Fatal(a, b, ns5, e)
			}
			if e := w.Log[4]; e != (api.Event{Kind: api.EvCommit, Proto: 1, Role: 1, A: a, B: b, K: 1<<31 + 5, N: 1<<31 + 8}) || len(w.Log) != 6 || len(w.Net.Grams) != 5 || w.Draws.Next != 10 {
				t.Fatal(a, b, w.Log, w.Net.Grams, w.Draws.Next)
			}
			expect(t, w, call{"Back", b, ns5}, api.ErrOpen)
			expect(t, w, call{"Ticket", b, ns3}, api.ErrReplay)
		}
	}
}

// come answers the message of a frame that is on its way to somebody.
func come(t *testing.T, w api.World, at int, to uint32) api.Msg {
	t.Helper()
	m, errno := msg.Get(w.Net.Grams[at].Words)
	if errno != api.OK || w.Net.Grams[at].To != to {
		t.Fatal(at, to, errno, w.Net.Grams[at])
	}
	return m
}

// P16.1: while B's clock goes on, what it is handed is stale at one step or the other.
func TestClockGoesOn(t *testing.T) {
	for ahead := range uint32(9) {
		for between := range uint32(9) {
			w, c := offered(fresh(), 2, 1, 1)
			w = timed(w, 2, ahead)
			if ahead > 5 {
				expect(t, w, c, api.ErrStale)
				continue
			}
			w = timed(expect(t, w, c, api.OK), 2, ahead+between)
			w = sealed(w, 60, 9001, api.LabelBack, last(w).N)
			want := api.OK
			if ahead+between > 5 {
				want = api.ErrStale
			}
			v := expect(t, w, back(2, 60), want)
			if e := last(v); want == api.OK && (e.Clock != ahead+between || v.Log[0].Clock != ahead || e.T != 0) {
				t.Fatal(ahead, between, v.Log)
			}
		}
	}
}

// P16.1: an echo opens under the ticket's key alone, and with its label alone.
func TestWhoOpensTheEcho(t *testing.T) {
	for i, world := range worlds() {
		w, c := offered(world, 1, 2, 1)
		v := expect(t, w, c, api.OK)
		s := v.Box.Sealed[len(w.Box.Sealed)]
		mine := nth(world.Draws.List, world.Draws.Next)
		keys := row{9001}
		for _, p := range v.People {
			keys = append(keys, p.Key)
		}
		for _, key := range append(keys, edges...) {
			for label := range uint32(12) {
				if p, ok := desk.Open(v, key, label, s.Handle); ok != (key == 9001 && label == api.LabelEcho) || ok && p != (api.Part{N: mine}) {
					t.Fatal(i, key, label, p, ok)
				}
			}
		}
		if s.Handle != nth(world.Draws.List, world.Draws.Next+1) || s.Handle == mine {
			t.Fatal(i, s, mine)
		}
	}
}

// P16.1, Ticket: names: a ticket is of a principal that isn't me; the server is none, and nobody else has a name.
func TestNames(t *testing.T) {
	for i, world := range worlds() {
		many := uint32(world.Conf.People)
		tried := append(slices.Clone(edges), 4, 5, 6, 8, many, many+1, 1<<31|1, 1<<31|2, 257, 258, 1<<16|1)
		for _, p := range world.People {
			// A key, a clock and what was used are no names.
			tried = append(tried, p.Key, p.Clock)
		}
		for me := uint32(1); me <= many; me++ {
			for _, a := range tried {
				want := api.ErrName
				if a >= 1 && a <= many && a != me {
					want = api.OK
				}
				w, c := offered(world, me, a, 1)
				if _, errno := check(t, w, c); errno != want {
					t.Fatal(i, me, a, errno)
				}
			}
		}
	}
}

// P16.1, Ticket: a world of one principal has no pair.
func TestOnePrincipal(t *testing.T) {
	w := least()
	w.Conf.People, w.People = 1, w.People[:2]
	for a := range uint32(4) {
		v, c := offered(w, 1, a, 1)
		expect(t, v, c, api.ErrName)
	}
}

// P16.1, Ticket: one run more is begun while I have less than Conf's Runs, whatever runs they are; nobody else's count. A back needs no room for a run.
func TestRuns(t *testing.T) {
	for _, room := range []int{0, 1, 2, 3, 4, 31, 63, 64} {
		for have := max(0, room-3); have <= room; have++ {
			for kind := range 12 {
				w := ready()
				w.Conf.Runs = room
				for p := range w.People {
					// Those of the others are as many as there may be.
					w.People[p].Runs = slices.Repeat([]api.Run{run(kind)}, room)
				}
				w.People[1].Runs = nil
				for range have {
					w.People[1].Runs = append(w.People[1].Runs, api.Run{Proto: 1 + kind%2, Role: 1 + kind/2%2, State: 1 + kind/4, Peer: 2})
				}
				want := api.OK
				if have == room {
					want = api.ErrFull
				}
				one, c := offered(w, 1, 2, 1)
				if v := expect(t, one, c, want); want == api.OK && len(v.People[1].Runs) != have+1 {
					t.Fatal(room, have, v.People[1].Runs)
				}
				if room == 0 {
					continue
				}
				two, c := offered(w, 2, 1, 1)
				expect(t, two, c, api.ErrFull)
				if have < room {
					three, c := answered(w, 1, 2, 1)
					expect(t, three, c, api.OK)
				}
			}
		}
	}
}

// P16.1, Ticket: a key that is in my row Used was used, wherever it stands there, and whether the row is full; else a full row has no room; nobody else's row counts.
func TestUsed(t *testing.T) {
	for _, room := range []int{0, 1, 2, 3, 4, 31, 63, 64} {
		for have := max(0, room-3); have <= room; have++ {
			w := ready()
			w.Conf.Used = room
			for p := range w.People {
				// The others' rows are full, and have the key, if they can.
				w.People[p].Used = words(room, 9)
			}
			w.People[1].Used = words(have, 8)
			for _, key := range append(append(slices.Clone(edges), words(room+2, 9)...), words(room+2, 8)...) {
				want := api.OK
				switch {
				case key > 8000 && key <= 8000+uint32(have):
					want = api.ErrReplay
				case have == room:
					want = api.ErrFull
				}
				v := sealed(w, 50, w.People[1].Key, api.LabelTicket, key, 2, w.People[1].Clock)
				got := expect(t, v, ticket(1, 50), want)
				if l := got.People[1].Used; want == api.OK && (len(l) != have+1 || l[have] != key || !slices.Equal(l[:have], words(have, 8))) {
					t.Fatal(room, have, key, l)
				}
				for _, p := range []int{0, 2, 3} {
					if !slices.Equal(got.People[p].Used, words(room, 9)) {
						t.Fatal(room, have, key, got.People[p])
					}
				}
			}
		}
	}
}

// P16.1: a ticket needs room for a seal and a frame, a back for neither.
func TestRoom(t *testing.T) {
	for boxes := range 3 {
		for frames := range 3 {
			for entries := range 3 {
				for grams := range 4 {
					w := ready()
					w.Box.Sealed, w.Net.Grams = w.Box.Sealed[:entries], w.Net.Grams[:grams]
					one, c := offered(w, 2, 3, 1)
					two, d := answered(w, 2, 3, 1)
					for i, x := range []struct {
						w             api.World
						c             call
						boxes, frames int
					}{{one, c, 1, 1}, {two, d, 0, 0}} {
						v := x.w
						v.Conf.Box, v.Conf.Net = len(v.Box.Sealed)+boxes, grams+frames
						v.Box.Room, v.Net.Room = v.Conf.Box, v.Conf.Net
						want := api.ErrFull
						if boxes >= x.boxes && frames >= x.frames {
							want = api.OK
						}
						if got, errno := check(t, v, x.c); errno != want || errno != api.OK && !sameWorld(got, v) {
							t.Fatal(i, boxes, frames, entries, grams, errno)
						}
					}
				}
			}
		}
	}
}

// P16.1: the greatest rooms: with just the room that is asked for, and full, each by itself; a back doesn't ask.
func TestGreatestRoom(t *testing.T) {
	one, c := offered(greatest(), 6, 5, 1)
	two, d := answered(greatest(), 6, 5, 1)
	v := expect(t, one, c, api.OK)
	if p := v.People[6]; len(v.Net.Grams) != 64 || len(v.Net.Seen) != 301 || len(p.Runs) != 64 || len(p.Used) != 64 || len(v.Box.Sealed) != 64 {
		t.Fatal(len(v.Net.Grams), len(v.Net.Seen), len(p.Runs), len(p.Used), len(v.Box.Sealed))
	}
	expect(t, two, d, api.OK)
	for _, full := range []func(w *api.World){
		func(w *api.World) { w.Net.Grams = append(w.Net.Grams, api.Gram{To: 99}) },
		func(w *api.World) {
			for len(w.Box.Sealed) < 64 {
				w.Box.Sealed = append(w.Box.Sealed, api.Sealed{Handle: uint32(99 + len(w.Box.Sealed))})
			}
		},
		func(w *api.World) { w.People[6].Used = append(w.People[6].Used, 99) },
		func(w *api.World) {
			if len(w.People[6].Runs) < 64 {
				w.People[6].Runs = append(w.People[6].Runs, run(1))
			}
		},
	} {
		one, two := deep(one), deep(two)
		full(&one)
		full(&two)
		expect(t, one, c, api.ErrFull)
		expect(t, two, d, api.OK)
	}
	// A second ticket finds nothing but what is full.
	v.Box.Sealed[0] = api.Sealed{Handle: 5002, Key: v.People[6].Key, Label: api.LabelTicket, Plain: row{9002, 5, 1<<30 - 1}}
	expect(t, v, ticket(6, 5002), api.ErrFull)
	v.Box.Sealed[0] = api.Sealed{Handle: 5002, Key: 9001, Label: api.LabelBack, Plain: row{last(v).N}}
	expect(t, v, back(6, 5002), api.OK)
}

// times are clocks and times that lie near each other, near a window's ends and near the end of clocks.
func times(now, window uint32) []uint32 {
	l := []uint32{0, 1, 1<<30 - 1, 1 << 30, 1<<30 + 1, math.MaxUint32, now}
	for _, by := range []uint32{1, 2, window - 1, window, window + 1} {
		l = append(l, now+by, now-by)
	}
	return l
}

// P16.1: T is fresh for my clock, and Conf's Window; whatever clocks the others have. At the end of clocks it never is.
func TestFresh(t *testing.T) {
	told := map[api.Errno]int{}
	for _, world := range []api.World{fresh(), ready(), least()} {
		for _, window := range []uint32{0, 1, 2, 9, 1 << 20} {
			for _, now := range []uint32{0, 1, 10, 1 << 20, 1<<20 + 1, 1<<30 - 1<<20, 1<<30 - 2, 1<<30 - 1, 1 << 30} {
				for _, time := range times(now, window) {
					for _, theirs := range []uint32{time, 1 << 30} {
						w := deep(world)
						w.Conf.Window = window
						for p := range w.People {
							w.People[p].Clock = min(theirs, 1<<30)
						}
						w.People[2].Clock = now
						one, c := offered(w, 2, 1, 1)
						one.Box.Sealed[len(one.Box.Sealed)-1].Plain[2] = time
						two, d := answered(w, 2, 1, 1)
						l := two.People[2].Runs
						l[len(l)-1].T = time
						want := api.ErrStale
						if isFresh(now, time, window) {
							want = api.OK
						}
						expect(t, one, c, want)
						expect(t, two, d, want)
						told[want]++
					}
				}
			}
		}
	}
	if told[api.OK] < 100 || told[api.ErrStale] < 100 {
		t.Error(told)
	}
}

// P16.1: a window's edges, written out: fresh at the window, on either side, not beyond it.
func TestFreshWrittenOut(t *testing.T) {
	for _, x := range []struct {
		now, time uint32
		want      api.Errno
	}{
		{10, 10, api.OK}, {10, 7, api.OK}, {10, 6, api.ErrStale}, {10, 13, api.OK}, {10, 14, api.ErrStale}, {0, 0, api.OK}, {0, 3, api.OK}, {0, 4, api.ErrStale},
		{1<<30 - 1, 1<<30 - 4, api.OK}, {1<<30 - 1, 1<<30 - 5, api.ErrStale}, {1<<30 - 1, 1 << 30, api.ErrStale}, {1 << 30, 1<<30 - 1, api.ErrStale}, {1 << 30, 1 << 30, api.ErrStale},
	} {
		w := timed(ready(), 1, x.now)
		w.Conf.Window = 3
		one, c := offered(w, 1, 2, 1)
		one.Box.Sealed[2].Plain[2] = x.time
		two, d := answered(w, 1, 2, 1)
		two.People[1].Runs[0].T = x.time
		expect(t, one, c, x.want)
		expect(t, two, d, x.want)
	}
}

// P16.1, Back: the run has a time; tickets in the box, of the same key, say nothing.
func TestWhoseTime(t *testing.T) {
	w := timed(ready(), 1, 100)
	for _, time := range append(slices.Clone(edges), 100, 91, 90, 109, 110) {
		two, c := answered(w, 1, 2, 1)
		two = sealed(two, 5002, two.People[1].Key, api.LabelTicket, 9001, 2, time)
		v := expect(t, two, c, api.OK)
		if r := v.People[1].Runs[0]; r.T != 100 || last(v).T != 100 {
			t.Fatal(r, last(v))
		}
	}
}

// turned tells what becomes of a call when an entry is another one.
func turned(t *testing.T, w api.World, c call, at int, s api.Sealed, ok bool) {
	t.Helper()
	w.Box.Sealed = slices.Clone(w.Box.Sealed)
	w.Box.Sealed[at] = s
	want := api.ErrOpen
	if ok {
		want = api.OK
	}
	if _, errno := check(t, w, c); errno != want {
		t.Fatalf("%+v of %+v: %d, want %d", c, s, errno, want)
	}
}

// P16.1: a Box opens under one key, with one label, and of so many words; of each all that may be wrong is tried.
func TestBoxes(t *testing.T) {
	for _, world := range worlds() {
		one, c := offered(world, 2, 1, 1)
		two, d := answered(world, 2, 1, 1)
		for _, x := range []struct {
			w api.World
			c call
		}{{one, c}, {two, d}} {
			at := len(world.Box.Sealed)
			right := x.w.Box.Sealed[at]
			for label := range uint32(13) {
				s := right
				s.Label = label
				turned(t, x.w, x.c, at, s, label == right.Label)
			}
			keys := append(slices.Clone(edges), right.Key^1, right.Key^1<<31, 7001, 9001, 95, 93)
			for _, p := range x.w.People {
				keys = append(keys, p.Key, p.Clock)
			}
			for _, key := range keys {
				s := right
				s.Key = key
				turned(t, x.w, x.c, at, s, key == right.Key)
			}
			for _, handle := range append(slices.Clone(edges), right.Handle^1, right.Handle^1<<31) {
				if !slices.ContainsFunc(x.w.Box.Sealed, func(s api.Sealed) bool { return s.Handle == handle }) {
					s := right
					s.Handle = handle
					turned(t, x.w, x.c, at, s, false)
				}
			}
			for count := range 65 {
				s := right
				s.Plain = words(count, 1)
				copy(s.Plain, right.Plain)
				turned(t, x.w, x.c, at, s, count == len(right.Plain))
			}
		}
	}
}

// P16.1: handles in the message: of nothing that was sealed, and of other entries.
func TestHandlesAsked(t *testing.T) {
	for _, world := range []api.World{fresh(), ready(), least()} {
		one, c := offered(world, 2, 1, 1)
		two, d := answered(world, 2, 1, 1)
		for _, x := range []struct {
			w api.World
			c call
		}{{one, c}, {two, d}} {
			tried := append(slices.Clone(edges), 5001, 5002, 5001|1<<31, 7001, 9001, nth(world.Draws.List, world.Draws.Next), nth(world.Draws.List, world.Draws.Next+1))
			for _, s := range x.w.Box.Sealed {
				tried = append(tried, s.Handle, s.Key)
			}
			for _, box := range tried {
				c := x.c
				c.m.Box = box
				want := api.ErrOpen
				if box == 5001 {
					want = api.OK
				}
				expect(t, x.w, c, want)
			}
		}
	}
}

// P16.1: of those who may be me the one whose ticket it is takes it, and nobody else; and so does the one whose run a back is for.
func TestWhose(t *testing.T) {
	for _, world := range worlds()[:3] {
		for me := uint32(1); me <= 3; me++ {
			for other := uint32(1); other <= 3; other++ {
				// A key of its own has each of them in these worlds.
				one, c := offered(world, me, 1+me%3, 1)
				two, d := answered(world, me, 1+me%3, 1)
				c.me, d.me = other, other
				want := api.ErrOpen
				if other == me {
					want = api.OK
				}
				expect(t, one, c, want)
				expect(t, two, d, want)
			}
		}
	}
	// With like long-term keys a ticket is for both: but not for its A.
	w, c := offered(ready(), 1, 2, 1)
	w.People[3].Key, w.People[2].Key, w.People[3].Clock = w.People[1].Key, w.People[1].Key, w.People[1].Clock
	v := expect(t, w, c, api.OK)
	c.me = 2
	expect(t, w, c, api.ErrName)
	c.me = 3
	// What was used is each one's own.
	if v = expect(t, v, c, api.OK); last(v).B != 3 || !slices.Contains(v.People[1].Used, 9001) || !slices.Contains(v.People[3].Used, 9001) {
		t.Fatal(last(v))
	}
	expect(t, v, c, api.ErrReplay)
}

// P16.1, Ticket: each word of it: K may be whatever, if it wasn't used; A makes a pair with me; T is fresh.
func TestTicketWords(t *testing.T) {
	for _, world := range worlds() {
		w, c := offered(world, 2, 1, 1)
		at, me, many := len(world.Box.Sealed), w.People[2], uint32(world.Conf.People)
		for place := range 3 {
			for _, word := range append(append(slices.Clone(edges), w.Box.Sealed[at].Plain[place], me.Clock, me.Key, 7001, 9001, 5001), me.Used...) {
				v := w
				v.Box.Sealed = slices.Clone(w.Box.Sealed)
				v.Box.Sealed[at].Plain = slices.Clone(v.Box.Sealed[at].Plain)
				v.Box.Sealed[at].Plain[place] = word
				want := api.OK
				switch {
				case place == 0 && slices.Contains(me.Used, word):
					want = api.ErrReplay
				case place == 1 && (word == 0 || word == 2 || word > many):
					want = api.ErrName
				case place == 2 && !isFresh(me.Clock, word, w.Conf.Window):
					want = api.ErrStale
				}
				got := expect(t, v, c, want)
				if want != api.OK {
					continue
				}
				l, p := v.Box.Sealed[at].Plain, got.People[2]
				r := p.Runs[len(p.Runs)-1]
				if e := last(got); r.K != l[0] || r.Peer != l[1] || r.T != l[2] || e.K != l[0] || e.A != l[1] || e.T != l[2] || p.Used[len(p.Used)-1] != l[0] || got.Net.Grams[len(got.Net.Grams)-1].To != l[1] {
					t.Fatal(place, word, r, e)
				}
			}
		}
	}
}

// P16.1, Ticket: runs of any kind that I have, with the ticket's own A, key, time and nonce, too, are in nobody's way, and stay as they are.
func TestOtherRuns(t *testing.T) {
	w, c := offered(ready(), 1, 2, 1)
	next := nth(w.Draws.List, w.Draws.Next)
	for proto := 1; proto <= 2; proto++ {
		for role := 1; role <= 2; role++ {
			for state := 1; state <= 3; state++ {
				r := api.Run{Proto: proto, Role: role, Peer: 2, Mine: next, Their: 93, M: 94, K: 9001, T: w.People[1].Clock, State: state}
				v := expect(t, hold(w, 1, r), c, api.OK)
				if l := v.People[1].Runs; len(l) != 2 || l[0] != r || l[1] != (api.Run{Proto: 1, Role: 2, Peer: 2, Mine: next, K: 9001, T: w.People[1].Clock, State: 2}) {
					t.Fatal(r, l)
				}
			}
		}
	}
}

// P16.1, Back: a peer may be whatever name, of nobody too: it stands in the event; nothing is sent.
func TestPeers(t *testing.T) {
	for _, world := range worlds() {
		for _, peer := range append(slices.Clone(edges), 4, 5, 6, 200) {
			w, c := answered(world, 2, peer, 1)
			v := expect(t, w, c, api.OK)
			if e := last(v); e.A != peer || e.B != 2 || len(v.Net.Grams) != len(world.Net.Grams) || len(v.Net.Seen) != len(world.Net.Seen) {
				t.Fatal(peer, e)
			}
		}
	}
}

// P16.1, Back: which run it is for: one ProtoNS, RoleB, Running, under whose K it opens, and whose Mine it has; whatever else it has, but its time.
func TestBackRuns(t *testing.T) {
	for _, world := range []api.World{fresh(), ready(), least()} {
		w, c := answered(world, 1, 2, 1)
		at := len(w.People[1].Runs) - 1
		right := w.People[1].Runs[at]
		with := func(r api.Run) {
			t.Helper()
			v := w
			v.People = slices.Clone(w.People)
			v.People[1].Runs = slices.Clone(w.People[1].Runs)
			v.People[1].Runs[at] = r
			want := api.ErrOpen
			if r.Proto == 1 && r.Role == 2 && r.State == 2 && r.K == 9001 && r.Mine == 7001 {
				want = api.ErrStale
				if isFresh(w.People[1].Clock, r.T, w.Conf.Window) {
					want = api.OK
				}
			}
			got := expect(t, v, c, want)
			r.State = 3
			if want == api.OK && got.People[1].Runs[at] != r {
				t.Fatal(got.People[1].Runs[at], r)
			}
		}
		for proto := 1; proto <= 2; proto++ {
			for role := 1; role <= 2; role++ {
				for state := 1; state <= 3; state++ {
					r := right
					r.Proto, r.Role, r.State = proto, role, state
					with(r)
				}
			}
		}
		for _, word := range append(slices.Clone(edges), 9001, 9000, 9002, 9001|1<<31, 7001, 7000, 7002, 7001|1<<31) {
			for place := range 6 {
				r := right
				*[]*uint32{&r.Peer, &r.Mine, &r.Their, &r.M, &r.K, &r.T}[place] = word
				with(r)
			}
		}
		v := w
		v.People = slices.Clone(w.People)
		v.People[1].Runs = w.People[1].Runs[:at]
		expect(t, v, c, api.ErrOpen)
	}
}

// P16.1, Back: it has the run's Mine, whatever that is, and no other word.
func TestBackNonces(t *testing.T) {
	for _, world := range worlds() {
		w, c := answered(world, 2, 1, 1)
		at, of := len(world.Box.Sealed), len(world.People[2].Runs)
		tried := append(slices.Clone(edges), nth(world.Draws.List, world.Draws.Next), 5001, 7001, 7000, 7002, 7001|1<<31, 9001, 93, 94, w.People[2].Key)
		for _, mine := range tried {
			for _, n := range tried {
				w.People[2].Runs[of].Mine = mine
				w.Box.Sealed[at].Plain[0] = n
				want := api.ErrOpen
				if mine == n {
					want = api.OK
				}
				if v := expect(t, w, c, want); want == api.OK && last(v).N != n {
					t.Fatal(n, last(v))
				}
			}
		}
	}
}

// P16.1, Back: of several runs the first counts for which it opens so that its N is the run's Mine; whether its time is fresh, or another one's would be.
func TestBackFirst(t *testing.T) {
	right := waits(2, 7001, 9001, 100)
	wrong := []api.Run{waits(2, 7001, 9000, 100), waits(2, 7000, 9001, 100), waits(2, 7000, 9001, 0), run(5)}
	for _, turn := range []func(r *api.Run){func(r *api.Run) { r.Proto = 2 }, func(r *api.Run) { r.Role = 1 }, func(r *api.Run) { r.State = 1 }, func(r *api.Run) { r.State = 3 }} {
		r := right
		turn(&r)
		wrong = append(wrong, r)
	}
	for _, one := range wrong {
		for _, two := range wrong {
			for at := range 3 {
				l := slices.Insert([]api.Run{one, two}, at, right)
				checkCommits(t, l, at, api.OK)
				// Another one for which it opens, too, with the same nonce, stands behind it.
				other := waits(3, 7001, 9001, 101)
				stale := right
				stale.T = 90
				for behind := at + 1; behind <= 3; behind++ {
					m := slices.Insert(slices.Clone(l), behind, other)
					checkCommits(t, m, at, api.OK)
					m[at] = stale
					checkCommits(t, m, at, api.ErrStale)
					m[at], m[behind] = right, stale
					checkCommits(t, m, at, api.OK)
				}
			}
		}
	}
}

// checkCommits tells that of a row of runs the one at a place commits, and no other one; or that none does.
func checkCommits(t *testing.T, l []api.Run, at int, errno api.Errno) {
	t.Helper()
	w, c := answered(timed(ready(), 1, 100), 1, 2, 1)
	w.People[1].Runs = slices.Clone(l)
	v := expect(t, w, c, errno)
	want := slices.Clone(l)
	if errno == api.OK {
		want[at].State = api.Done
	}
	if !slices.Equal(v.People[1].Runs, want) {
		t.Fatal(v.People[1].Runs, want)
	}
}

// P16.1, Back: the same back once more is for no run; but for a second one with the same key and nonce it is. With one key and unlike nonces, each run has its own.
func TestBackTwice(t *testing.T) {
	w, c := answered(timed(ready(), 1, 100), 1, 2, 1)
	v := expect(t, w, c, api.OK)
	expect(t, v, c, api.ErrOpen)
	v = expect(t, hold(w, 1, waits(3, 7001, 9001, 99)), c, api.OK)
	v = expect(t, v, c, api.OK)
	if l := v.People[1].Runs; l[0].State != api.Done || l[1].State != api.Done || last(v).A != 3 || last(v).T != 99 {
		t.Fatal(l, last(v))
	}
	expect(t, v, c, api.ErrOpen)
	for _, at := range []int{0, 1} {
		v = hold(hold(timed(ready(), 1, 100), 1, waits(2, 7001, 9001, 99)), 1, waits(3, 7002, 9001, 98))
		v = sealed(v, 50, 9001, api.LabelBack, uint32(7001+at))
		v = expect(t, v, back(1, 50), api.OK)
		if l := v.People[1].Runs; l[at].State != api.Done || l[1-at].State != api.Running || last(v).A != uint32(2+at) || last(v).T != uint32(99-at) {
			t.Fatal(at, l, last(v))
		}
		expect(t, v, back(1, 50), api.ErrOpen)
		v = expect(t, sealed(v, 51, 9001, api.LabelBack, uint32(7002-at)), back(1, 51), api.OK)
		if l := v.People[1].Runs; l[0].State != api.Done || l[1].State != api.Done {
			t.Fatal(at, l)
		}
	}
}

// P16.1: several runs of one principal, with one peer and with several, and of two with each other, one inside the other.
func TestSeveral(t *testing.T) {
	w := fresh()
	w.Conf.Net, w.Net.Room, w.Conf.Box, w.Box.Room = 30, 30, 30, 30
	pairs := [][2]uint32{{2, 1}, {3, 1}, {2, 1}, {1, 2}, {2, 1}, {1, 3}}
	var nonces row
	for i, x := range pairs {
		w = sealed(w, uint32(50+i), w.People[x[1]].Key, api.LabelTicket, uint32(70+i), x[0], uint32(i%3))
		w = expect(t, w, ticket(x[1], uint32(50+i)), api.OK)
		expect(t, w, ticket(x[1], uint32(50+i)), api.ErrReplay)
		mine := 1<<31 + uint32(4+2*i)
		nonces = append(nonces, mine)
		if e := last(w); e != (api.Event{Kind: 3, Proto: 1, Role: 2, A: x[0], B: x[1], K: uint32(70 + i), T: uint32(i % 3), N: mine}) {
			t.Fatal(i, e)
		}
		m, _ := msg.Get(w.Net.Grams[i].Words)
		if p, ok := desk.Open(w, uint32(70+i), api.LabelEcho, m.Box); !ok || p.N != mine || m.Box != mine+1 || w.Net.Grams[i].To != x[0] {
			t.Fatal(i, m, p, ok)
		}
	}
	expect(t, sealed(w, 56, w.People[1].Key, api.LabelTicket, 76, 2, 0), ticket(1, 56), api.ErrFull)
	for i, at := range []int{4, 0, 3, 2, 5, 1} {
		x := pairs[at]
		// Of each run with one peer another one's nonce is no help.
		v := sealed(w, 90, uint32(70+at), api.LabelBack, nonces[(at+2)%6])
		expect(t, v, back(x[1], 90), api.ErrOpen)
		w = sealed(w, uint32(80+at), uint32(70+at), api.LabelBack, nonces[at])
		w = expect(t, w, back(x[1], uint32(80+at)), api.OK)
		expect(t, w, back(x[1], uint32(80+at)), api.ErrOpen)
		if e := last(w); e != (api.Event{Kind: 4, Proto: 1, Role: 2, A: x[0], B: x[1], K: uint32(70 + at), T: uint32(at % 3), N: nonces[at]}) {
			t.Fatal(i, at, e)
		}
	}
	for _, p := range w.People {
		if slices.ContainsFunc(p.Runs, func(r api.Run) bool { return r.State != api.Done || r.M != 0 || r.Their != 0 }) {
			t.Fatal(p)
		}
	}
	if len(w.People[1].Used) != 4 || len(w.People[2].Used) != 1 || len(w.People[3].Used) != 1 || len(w.People[0].Used) != 0 {
		t.Fatal(w.People)
	}
}

// fault is what may stand in the way of a call; with OK it is what doesn't.
type fault struct {
	name  string
	errno api.Errno
	make  func(w *api.World)
}

// netFull and what stands beside it are what becomes of both calls, in ready.
func netFull(w *api.World)  { w.Conf.Net, w.Net.Room = 3, 3 }
func boxFull(w *api.World)  { w.Conf.Box, w.Box.Room = len(w.Box.Sealed), len(w.Box.Sealed) }
func clockEnd(w *api.World) { w.People[2].Clock = 1 << 30 }
func usedFull(w *api.World) {
	w.People[2].Used = append(slices.Clone(w.People[2].Used), words(5-len(w.People[2].Used), 3)...)
}
func runsFull(w *api.World) { w.Conf.Runs = len(w.People[2].Runs) }

// faults are what may stand in the way of each call, of 2 with 3 in ready, in the chapter's order; errors of one kind stand beside each other.
var faults = map[string][]fault{
	"Ticket": {
		{"another label", api.ErrOpen, func(w *api.World) { w.Box.Sealed[2].Label = api.LabelGrant }},
		{"another key", api.ErrOpen, func(w *api.World) { w.Box.Sealed[2].Key++ }},
		{"A is me", api.ErrName, func(w *api.World) { w.Box.Sealed[2].Plain[1] = 2 }},
		{"stale", api.ErrStale, func(w *api.World) { w.Box.Sealed[2].Plain[2] += 10 }},
		{"clock at its end", api.ErrStale, clockEnd},
		{"key used", api.ErrReplay, func(w *api.World) { w.People[2].Used[0] = 9001 }},
		{"used words full", api.ErrFull, usedFull},
		{"as many runs", api.ErrFull, runsFull},
		{"box full", api.ErrFull, boxFull},
		{"net full", api.ErrFull, netFull},
		{"echo's handle used", api.ErrReplay, func(w *api.World) { w.Box.Sealed[1].Handle = 1<<31 | 25 }},
	},
	"Back": {
		{"another label", api.ErrOpen, func(w *api.World) { w.Box.Sealed[2].Label = api.LabelEcho }},
		{"another key", api.ErrOpen, func(w *api.World) { w.People[2].Runs[3].K++ }},
		{"another nonce", api.ErrOpen, func(w *api.World) { w.Box.Sealed[2].Plain[0]++ }},
		{"another state", api.ErrOpen, func(w *api.World) { w.People[2].Runs[3].State = api.Done }},
		{"another role", api.ErrOpen, func(w *api.World) { w.People[2].Runs[3].Role = api.RoleA }},
		{"stale", api.ErrStale, func(w *api.World) { w.People[2].Runs[3].T += 10 }},
		{"clock at its end", api.ErrStale, clockEnd},
		{"used words full", api.OK, usedFull},
		{"as many runs", api.OK, runsFull},
		{"box full", api.OK, boxFull},
		{"net full", api.OK, netFull},
	},
}

// tried answers, of each call, a world in which it is right, for 2, of 3.
func tried(what string) (api.World, call) {
	if what == "Ticket" {
		return offered(deep(ready()), 2, 3, 1)
	}
	return answered(deep(ready()), 2, 3, 1)
}

// P16.1: of several errors that apply the one is told that the chapter names first, and nothing is done; for each set of what may stand in the way.
func TestFirstError(t *testing.T) {
	for what, list := range faults {
		for set := range 1 << len(list) {
			w, c := tried(what)
			want := api.OK
			var names []string
			for i, f := range list {
				if set>>i&1 == 0 {
					continue
				}
				f.make(&w)
				names = append(names, f.name)
				if want == api.OK {
					want = f.errno
				}
			}
			was := deep(w)
			got, errno := check(t, w, c)
			if errno != want {
				t.Errorf("%s, %q: %d, want %d", what, names, errno, want)
			}
			if want != api.OK && !sameWorld(got, was) {
				t.Errorf("%s, %q: another world", what, names)
			}
		}
	}
}

// P16.1, Ticket: names that make no pair, each kind of them, are told ahead of all else but a Box that doesn't open.
func TestNamesAheadOfAll(t *testing.T) {
	for _, a := range (row{0, 2, 4, 9, math.MaxUint32}) {
		w, c := tried("Ticket")
		w.Box.Sealed[2].Plain[1] = a
		for _, f := range faults["Ticket"][3:] {
			f.make(&w)
			expect(t, w, c, api.ErrName)
		}
		w.Box.Sealed[2].Label = api.LabelShareB
		expect(t, w, c, api.ErrOpen)
	}
}

// P16.1, Ticket: N is drawn, and is no handle: whatever stands in the box, whatever was used, and whatever other runs have it, the run begins. Back draws nothing.
func TestNonceLikeOther(t *testing.T) {
	w, c := offered(ready(), 1, 2, 1)
	next := nth(w.Draws.List, w.Draws.Next)
	w.Box.Sealed[0].Handle, w.People[1].Used = next, row{next}
	w = hold(w, 1, waits(2, next, next, 5))
	v := expect(t, w, c, api.OK)
	if l := v.People[1].Runs; l[1] != (api.Run{Proto: 1, Role: 2, Peer: 2, Mine: next, K: 9001, T: w.People[1].Clock, State: 2}) || !slices.Equal(v.People[1].Used, row{next, 9001}) {
		t.Fatal(l, v.People[1].Used)
	}
	// Of two runs with one nonce the one under whose key the back is sealed commits.
	v = expect(t, sealed(v, 50, 9001, api.LabelBack, next), back(1, 50), api.OK)
	if l := v.People[1].Runs; l[0].State != api.Running || l[1].State != api.Done || v.Draws.Next != 5 {
		t.Fatal(l)
	}
}

// P16.1, Ticket: a draw that is a handle already can't be the echo's: w comes back, with nothing drawn, noted or begun.
func TestHandlesUsed(t *testing.T) {
	for _, x := range []struct {
		name   string
		list   row
		handle uint32
		want   api.Errno
	}{
		{"unlike", row{40, 41}, 31, api.OK},
		{"the nonce is one", row{40, 41}, 1<<31 | 40, api.OK},
		{"the echo's is one", row{40, 41}, 1<<31 | 41, api.ErrReplay},
		{"the next one's is one", row{40, 41, 42}, 1<<31 | 42, api.OK},
		{"without the draw's bit it is another one", row{40, 41}, 41, api.OK},
		{"with the bit in the list", row{40, 1<<31 | 41}, 1<<31 | 41, api.ErrReplay},
		{"the nonce is like the handle", row{40, 40}, 41, api.OK},
		{"the nonce is like the handle, which is one", row{40, 40}, 1<<31 | 40, api.ErrReplay},
		{"behind the list's end", row{}, 3<<30 | 1, api.ErrReplay},
		{"behind it by one", row{40}, 3<<30 | 1, api.ErrReplay},
		{"behind it, unlike", row{}, 3 << 30, api.OK},
	} {
		// Whatever the entry is: another one's, or the ticket itself.
		for at := range 3 {
			w, c := offered(deep(ready()), 1, 2, 1)
			w.Draws = api.Draws{List: x.list}
			w.Box.Sealed[0].Handle = 33
			w.Box.Sealed[at].Handle = x.handle
			c.m.Box = w.Box.Sealed[2].Handle
			got, errno := check(t, w, c)
			if errno != x.want || errno != api.OK && (got.Draws.Next != 0 || len(got.Box.Sealed) != 3 || len(got.Log) != 2 || len(got.People[1].Runs) != 0 || len(got.People[1].Used) != 0) {
				t.Errorf("%s: %d, want %d: %+v", x.name, errno, x.want, got)
			}
		}
	}
}

// P16.1: draws wherever Next is: ahead of the list's end, behind it, and near the last Next that a world may have.
func TestDraws(t *testing.T) {
	var nexts []int
	for i := range 15 {
		nexts = append(nexts, i, 1<<20-i)
	}
	for _, next := range nexts {
		w := deep(ready())
		w.Draws.Next = next
		mine, echo := nth(w.Draws.List, next), nth(w.Draws.List, next+1)
		one, c := offered(w, 1, 2, 1)
		v := expect(t, one, c, api.OK)
		if v.Draws.Next != next+2 || last(v).N != mine || v.People[1].Runs[0].Mine != mine || v.Box.Sealed[3].Handle != echo || v.Box.Sealed[3].Plain[0] != mine {
			t.Error(next, v.Draws.Next, last(v), v.Box.Sealed[3])
		}
		two, d := answered(w, 1, 2, 1)
		if v = expect(t, two, d, api.OK); v.Draws.Next != next {
			t.Error(next, v.Draws.Next)
		}
		one.Box.Sealed[0].Handle = echo
		expect(t, one, c, api.ErrReplay)
	}
}

// P16.1: a principal that is corrupt, or whose key is like another one's, or 0, takes what comes, as any other; and so it does from such a one.
func TestPrincipalsAsTheyAre(t *testing.T) {
	for _, keys := range [][2]uint32{{0, 0}, {5, 5}, {0, 1 << 31}, {math.MaxUint32, 7}, {1<<31 | 24, 1<<31 | 25}, {9001, 9001}} {
		for _, corrupt := range []bool{false, true} {
			w := ready()
			w.People[0].Corrupt, w.People[1].Corrupt, w.People[2].Corrupt = corrupt, corrupt, !corrupt
			w.People[1].Key, w.People[2].Key = keys[0], keys[1]
			one, c := offered(w, 1, 2, 1)
			v := expect(t, one, c, api.OK)
			if v.Box.Sealed[3].Key != 9001 {
				t.Error(keys, v.Box.Sealed[3])
			}
			two, d := answered(w, 1, 2, 1)
			expect(t, two, d, api.OK)
			// A run's key that is 0, or a long-term one, is a key.
			two.People[1].Runs[0].K, two.Box.Sealed[2].Key = keys[0], keys[0]
			expect(t, two, d, api.OK)
			one.Box.Sealed[2].Plain[0] = keys[0]
			v = expect(t, one, c, api.OK)
			if v.Box.Sealed[3].Key != keys[0] || !slices.Equal(v.People[1].Used, row{keys[0]}) {
				t.Error(keys, v.Box.Sealed[3])
			}
			expect(t, v, c, api.ErrReplay)
		}
	}
}

// P16.1: whatever else a world has: all is as the chapter's words say, in worlds that are put together by chance.
func TestByChance(t *testing.T) {
	r := rand.New(rand.NewSource(16))
	told := map[string]int{}
	for range 80000 {
		w, c := chance(r)
		_, errno := check(t, w, c)
		told[fmt.Sprint(c.what, errno)]++
	}
	for _, one := range []string{"Ticket0", "Ticket6", "Ticket5", "Ticket7", "Ticket8", "Ticket10", "Back0", "Back6", "Back7"} {
		if told[one] < 100 {
			t.Error(one, told)
		}
	}
	if len(told) != 9 {
		t.Error(told)
	}
}

// chance puts a world together that has its form, and a call.
func chance(r *rand.Rand) (api.World, call) {
	c := api.Conf{Window: uint32(r.Intn(5)), People: 1 + r.Intn(6), Box: r.Intn(9), Used: r.Intn(5), Runs: r.Intn(7), Net: r.Intn(6), Regs: 1 + r.Intn(3)}
	w := api.World{Conf: c, Box: api.Box{Room: c.Box}, Net: api.Net{Room: c.Net}, Regs: make([]row, c.Regs)}
	for range r.Intn(12) {
		w.Draws.List = append(w.Draws.List, uint32(r.Intn(12)))
	}
	w.Draws.Next = r.Intn(9)
	for i := range r.Intn(c.Net + 1) {
		w.Net.Grams = append(w.Net.Grams, api.Gram{To: uint32(r.Intn(9)), Words: words(r.Intn(20), i)})
	}
	for i := range r.Intn(6) {
		w.Net.Seen = append(w.Net.Seen, words(r.Intn(20), i))
		w.Log = append(w.Log, event(r.Intn(9)))
	}
	for name := range c.People + 1 {
		p := someone(uint32(name), r.Intn(3), 0, 0)
		p.Clock = uint32(r.Intn(5))
		for _, word := range r.Perm(6)[:r.Intn(c.Used+1)] {
			p.Used = append(p.Used, uint32(word))
		}
		for range r.Intn(c.Runs + 1) {
			p.Runs = append(p.Runs, anyRun(r))
		}
		if r.Intn(9) == 0 {
			p.Clock = 1 << 30
		}
		w.People = append(w.People, p)
	}
	me := uint32(1 + r.Intn(c.People))
	for i, handle := range r.Perm(12)[:r.Intn(c.Box+1)] {
		w.Box.Sealed = append(w.Box.Sealed, anyEntry(r, w.People[me], 1<<31|uint32(handle), i))
	}
	if len(w.Box.Sealed) == 0 || r.Intn(9) == 0 {
		box := uint32(r.Intn(12)) | 1<<31
		return w, []call{ticket(me, box), back(me, box)}[r.Intn(2)]
	}
	s := w.Box.Sealed[r.Intn(len(w.Box.Sealed))]
	if s.Label == api.LabelTicket {
		return w, ticket(me, s.Handle)
	}
	return w, back(me, s.Handle)
}

// anyRun answers a run that may be, most often one that waits for a back, of few words.
func anyRun(r *rand.Rand) api.Run {
	one := api.Run{Proto: 1, Role: 2, Peer: uint32(1 + r.Intn(2)), Mine: uint32(r.Intn(2)), Their: uint32(r.Intn(3)), M: uint32(r.Intn(3)), K: uint32(r.Intn(3)), T: uint32(r.Intn(5)), State: 2 + r.Intn(2)}
	if r.Intn(9) == 0 {
		one.Proto = 2
	}
	if r.Intn(9) == 0 {
		one.Role = 1
	}
	if r.Intn(9) == 0 {
		one.State = 1
	}
	return one
}

// anyEntry answers an entry, most often a ticket for somebody, or a back.
func anyEntry(r *rand.Rand, me api.Person, handle uint32, number int) api.Sealed {
	switch r.Intn(5) {
	case 0:
		return api.Sealed{Handle: handle, Key: uint32(r.Intn(9)), Label: uint32(r.Intn(12)), Plain: words(r.Intn(6), number)}
	case 1, 2:
		return api.Sealed{Handle: handle, Key: me.Key, Label: 3, Plain: row{uint32(r.Intn(12)), uint32(r.Intn(6)), uint32(r.Intn(5))}}
	}
	return api.Sealed{Handle: handle, Key: uint32(r.Intn(3)), Label: 5, Plain: row{uint32(r.Intn(2))}}
}

// taker is who takes a key, and the key.
type taker struct {
	b, k uint32
}

// P16.2: whatever comes, and however often: a key is taken once at most by each, and committed to once at most, with the A, the time and the nonce with which it was taken; and commits are events.
func TestOnce(t *testing.T) {
	r := rand.New(rand.NewSource(17))
	refused, commits := 0, 0
	for range 60 {
		w := fresh()
		w.Draws.List = nil
		w.Conf.Box, w.Box.Room, w.Conf.Net, w.Net.Room, w.Conf.Runs, w.Conf.Used = 64, 64, 64, 64, 12, 12
		took := map[taker]api.Event{}
		done := map[taker]bool{}
		for number := range uint32(300) {
			w = goOn(r, w, number)
			was := w
			v, errno := check(t, w, someCall(r, w))
			w = v
			if errno != api.OK {
				if errno == api.ErrReplay {
					refused++
				}
				continue
			}
			checkStates(t, was, w)
			e := last(w)
			who := taker{e.B, e.K}
			switch old, ok := took[who]; e.Kind {
			case api.EvRun:
				if ok {
					t.Fatal("taken twice", e, old)
				}
				took[who] = e
			case api.EvCommit:
				commits++
				if done[who] {
					t.Fatal("committed to twice", e)
				}
				done[who] = true
				if !ok || old.A != e.A || old.T != e.T || old.N != e.N {
					t.Fatal("committed to what wasn't taken", e, old)
				}
			}
		}
		for who := range took {
			if !slices.Contains(w.People[who.b].Used, who.k) {
				t.Fatal("taken, and not noted", who, w.People[who.b].Used)
			}
		}
	}
	if refused < 500 || commits < 500 {
		t.Error(refused, commits)
	}
}

// goOn has time go by, frames be taken away, and tickets and backs be sealed, right ones and others.
func goOn(r *rand.Rand, w api.World, number uint32) api.World {
	w = deep(w)
	me := &w.People[1+r.Intn(3)]
	me.Clock = min(me.Clock+uint32(r.Intn(2)*r.Intn(2)*r.Intn(2)), 1<<30)
	w.Net.Grams = w.Net.Grams[:min(len(w.Net.Grams), 60)]
	w.Box.Sealed = w.Box.Sealed[max(0, len(w.Box.Sealed)-40):]
	if len(me.Runs) == 0 || r.Intn(3) == 0 {
		// Keys are few, so that one is now and then in several tickets.
		return sealed(w, 5000+number, me.Key, api.LabelTicket, 9000+uint32(r.Intn(20)), uint32(1+r.Intn(3)), me.Clock)
	}
	one, other := me.Runs[r.Intn(len(me.Runs))], me.Runs[r.Intn(len(me.Runs))]
	if r.Intn(4) != 0 {
		other = one
	}
	return sealed(w, 5000+number, one.K, api.LabelBack, other.Mine)
}

// someCall answers a call, most often of an entry that was sealed of late, for whom it is.
func someCall(r *rand.Rand, w api.World) call {
	me := uint32(1 + r.Intn(3))
	s := w.Box.Sealed[max(0, len(w.Box.Sealed)-1-r.Intn(6))]
	if r.Intn(9) != 0 {
		for _, p := range w.People[1:] {
			if s.Key == p.Key || slices.ContainsFunc(p.Runs, func(r api.Run) bool { return s.Key == r.K && slices.Contains(s.Plain, r.Mine) }) {
				me = p.Name
			}
		}
	}
	if s.Label == api.LabelTicket {
		return ticket(me, s.Handle)
	}
	return back(me, s.Handle)
}

// checkStates tells that each run is as it was, or is Done and was Running; that none leaves its row; and that no used word leaves its.
func checkStates(t *testing.T, was, now api.World) {
	t.Helper()
	for i, p := range was.People {
		if !slices.Equal(p.Used, now.People[i].Used[:len(p.Used)]) {
			t.Fatal(p.Used, now.People[i].Used)
		}
		for j, old := range p.Runs {
			r := now.People[i].Runs[j]
			ended := old
			ended.State = api.Done
			if r != old && (r != ended || old.State != api.Running) {
				t.Fatal(old, r)
			}
		}
	}
}

// P16.2: with one key in two rows of Used, that of whose run it is counts: another one's run, of the same key, goes on by itself.
func TestOnceEach(t *testing.T) {
	w, c := offered(fresh(), 1, 2, 1)
	w = expect(t, w, c, api.OK)
	first := last(w)
	w = sealed(w, 50, w.People[3].Key, api.LabelTicket, 9001, 2, 0)
	w = expect(t, w, ticket(3, 50), api.OK)
	second := last(w)
	w = sealed(sealed(w, 60, 9001, api.LabelBack, first.N), 61, 9001, api.LabelBack, second.N)
	expect(t, w, back(3, 60), api.ErrOpen)
	expect(t, w, back(1, 61), api.ErrOpen)
	w = expect(t, w, back(1, 60), api.OK)
	w = expect(t, w, back(3, 61), api.OK)
	expect(t, w, back(1, 60), api.ErrOpen)
	expect(t, w, back(3, 61), api.ErrOpen)
	// Neither takes the key any more, though its run is Done.
	expect(t, w, c, api.ErrReplay)
	expect(t, w, ticket(3, 50), api.ErrReplay)
}

// calls are calls of which in most places one or another is done, and the others aren't, for each reason.
func calls() []call {
	return []call{
		ticket(1, 5001), ticket(2, 5001), ticket(1, 5002), ticket(1, 5003), ticket(1, 5004), ticket(1, 5005), ticket(1, 9), ticket(2, 9),
		back(2, 5002), back(1, 5002), back(2, 5001), back(2, 9), back(2, 5004), back(2, 5006),
	}
}

// several answers worlds in which a ticket has come to 1, and a back to 2.
func several() []api.World {
	great := greatest()
	great.Box.Sealed, great.Net.Grams = great.Box.Sealed[:54], great.Net.Grams[:60]
	for p := range great.People {
		great.People[p].Runs, great.People[p].Used = great.People[p].Runs[:60], great.People[p].Used[:60]
	}
	l := []api.World{fresh(), ready(), great}
	for i, w := range l {
		w.People[1].Used = append(w.People[1].Used, 8005)
		w, _ = offered(w, 1, 2, 1)
		w, _ = answered(w, 2, 3, 2)
		// For 1: a stale ticket, one of its own name, one of a key that was used.
		me := w.People[1]
		w = sealed(w, 5003, me.Key, api.LabelTicket, 70, 2, 1<<30)
		w = sealed(w, 5004, me.Key, api.LabelTicket, 70, 1, me.Clock)
		w = sealed(w, 5005, me.Key, api.LabelTicket, 8005, 2, me.Clock)
		// A back of another nonce, for 2.
		l[i] = sealed(w, 5006, 9002, api.LabelBack, 7009)
	}
	return l
}

// places answers worlds in which something is done, and such in which nothing is, for each reason.
func places() []api.World {
	one, _ := offered(least(), 1, 2, 1)
	two, _ := answered(least(), 2, 1, 2)
	l := append(several(), one, two, least())
	for _, f := range []func(w *api.World){
		netFull, boxFull, clockEnd, runsFull, usedFull,
		func(w *api.World) { w.Conf.Used = 2 },
		func(w *api.World) { w.People[1].Clock, w.People[2].Clock = 1<<30, 1<<30 },
		func(w *api.World) { w.Box.Sealed[0].Handle = nth(w.Draws.List, w.Draws.Next+1) },
	} {
		w := deep(several()[1])
		f(&w)
		l = append(l, w)
	}
	return l
}

// P16.3: its tests hang on places in which each answer comes.
func TestPlaces(t *testing.T) {
	told := map[string]int{}
	for _, w := range places() {
		for _, c := range calls() {
			if !c.may(w) {
				continue
			}
			_, errno := check(t, w, c)
			told[fmt.Sprint(c.what, errno)]++
		}
	}
	if len(told) != 9 {
		t.Error(told)
	}
}

// fillNew fills the lists of an answer that didn't stay as they were in w: those that have more than they had, and what they have anew.
func fillNew(v, w api.World, c call) {
	if len(v.Log) == len(w.Log) {
		return
	}
	if c.what == "Ticket" {
		fill(v.Box.Sealed[len(w.Box.Sealed)].Plain, 6)
		fill(v.Net.Grams[len(w.Net.Grams)].Words, 6)
		fill(v.Net.Seen[len(w.Net.Seen)], 6)
		fill(v.Box.Sealed, api.Sealed{Handle: 6})
		fill(v.Net.Grams, api.Gram{To: 6})
		fill(v.Net.Seen, row{6})
		fill(v.People[c.me].Used, 6)
	}
	fill(v.People[c.me].Runs, run(6))
	fill(v.People, api.Person{Name: 66})
	fill(v.Log, event(6))
}

// P16.3: no call changes a world, nor what stands ahead of its lists and in the room behind them; a write into what an answer has anew is seen neither in the world nor in another answer.
func TestHandedInStays(t *testing.T) {
	for i, world := range places() {
		for _, c := range calls() {
			name := fmt.Sprint(i, c)
			w, h := roomy(world)
			one, _ := c.do(w)
			want := deep(one)
			two, _ := c.do(w)
			if !h.isAsItWas() || !sameWorld(w, world) {
				t.Fatal(name, "changes what is handed in")
			}
			fillNew(one, w, c)
			if !h.isAsItWas() || !sameWorld(w, world) {
				t.Fatal(name, "a write into an answer is seen in what was handed in")
			}
			if !sameWorld(two, want) {
				t.Fatal(name, "a write into one answer is seen in another one")
			}
			fillNew(two, w, c)
			if three, _ := c.do(w); !sameWorld(three, want) {
				t.Fatal(name, "a write into one answer is seen in a later one")
			}
		}
	}
}

// P16.3: answers of one world go on apart: what is done in one isn't done in another.
func TestAnswersGoOnApart(t *testing.T) {
	first := []call{ticket(1, 5001), back(2, 5002)}
	for i, world := range several() {
		for _, c := range first {
			for _, d := range first {
				w, _ := roomy(world)
				one, errno := c.do(w)
				two, errno2 := d.do(w)
				if errno != api.OK || errno2 != api.OK {
					t.Fatal(i, c, d, errno, errno2)
				}
				want, wantTwo := deep(one), deep(two)
				for _, e := range calls() {
					three, _ := e.do(one)
					four, _ := e.do(two)
					fillNew(three, one, e)
					fillNew(four, two, e)
					if !sameWorld(w, world) || !sameWorld(one, want) || !sameWorld(two, wantTwo) {
						t.Fatal(i, c, d, e)
					}
				}
				fillNew(one, w, c)
				if !sameWorld(w, world) || !sameWorld(two, wantTwo) {
					t.Fatal(i, c, d, "a later change of one answer")
				}
			}
		}
	}
}

// P16.3: what an answer has anew doesn't change when what was handed in does.
func TestLaterChangeOfTheWorld(t *testing.T) {
	for room := range 4 {
		for what := range faults {
			w, c := tried(what)
			// Once there is no room behind the lists, then there is.
			w.Box.Sealed, w.Net.Grams, w.Net.Seen = with(w.Box.Sealed, room), with(w.Net.Grams, room), with(w.Net.Seen, room)
			w.Log, w.People = with(w.Log, room), with(w.People, room)
			w.People[2].Runs, w.People[2].Used = with(w.People[2].Runs, room), with(w.People[2].Used, room)
			want, wantErrno := c.retold(w)
			got, errno := c.do(w)
			if what == "Ticket" {
				// A back leaves these as they are, and may share them.
				fill(w.Box.Sealed, api.Sealed{Handle: 6})
				fill(w.Net.Grams, api.Gram{To: 6})
				fill(w.Net.Seen, row{6})
				fill(w.People[2].Used, 6)
			}
			fill(w.People[2].Runs, run(6))
			fill(w.Log, event(6))
			fill(w.People, api.Person{Name: 66})
			if errno != api.OK || errno != wantErrno || !sameWorld(got, want) {
				t.Errorf("%s, %d: %d: %+v, want %+v", what, room, errno, got, want)
			}
		}
	}
}

// with answers a copy of a list that has so much room behind it.
func with[T any](l []T, room int) []T {
	m := make([]T, len(l), len(l)+room)
	copy(m, l)
	return m
}

// Rule 8: what is answered hangs on what is handed in now, and on no call ahead of it.
func TestNothingIsKept(t *testing.T) {
	for _, c := range calls() {
		want, wantErrno := c.do(several()[1])
		want = deep(want)
		for _, w := range places() {
			for _, d := range calls() {
				d.do(w)
			}
		}
		if got, errno := c.do(several()[1]); errno != wantErrno || !sameWorld(got, want) {
			t.Fatal(c, errno, got, want)
		}
	}
}

// Rule 5: nil and empty lists are one.
func TestNilAndEmpty(t *testing.T) {
	w, v := fresh(), fresh()
	w.Box.Sealed, w.Net.Grams, w.Net.Seen, w.Log, w.Leaks = nil, nil, nil, nil, nil
	v.Box.Sealed, v.Net.Grams, v.Net.Seen, v.Log, v.Leaks = []api.Sealed{}, []api.Gram{}, []row{}, []api.Event{}, []api.Leak{}
	for p := range w.People {
		w.People[p].Used, w.People[p].Runs = nil, nil
		v.People[p].Used, v.People[p].Runs = row{}, []api.Run{}
	}
	for _, c := range []call{ticket(1, 5001), back(1, 5001)} {
		expect(t, w, c, api.ErrOpen)
		expect(t, v, c, api.ErrOpen)
	}
	one, c := offered(w, 1, 2, 1)
	two, _ := offered(v, 1, 2, 1)
	if a, b := expect(t, one, c, api.OK), expect(t, two, c, api.OK); !sameWorld(a, b) {
		t.Error(a, b)
	}
	one, c = answered(w, 1, 2, 1)
	two, _ = answered(v, 1, 2, 1)
	if a, b := expect(t, one, c, api.OK), expect(t, two, c, api.OK); !sameWorld(a, b) {
		t.Error(a, b)
	}
}

// P1 of all layers: calls end, and don't panic, at worlds, names and messages too of which nothing is promised.
func TestEveryCallEnds(t *testing.T) {
	l := append(places(), api.World{}, api.World{People: []api.Person{{Name: 1}, {Name: 2}}, Conf: api.Conf{Runs: 1}, Box: api.Box{Room: 9}, Net: api.Net{Room: 9}})
	for _, n := range []int{math.MinInt, -3, -1, 0, 1, 65, math.MaxInt - 3, math.MaxInt} {
		w := several()[1]
		w.Conf = api.Conf{Window: math.MaxUint32, People: n, Box: n, Used: n, Runs: n, Net: n, Regs: n}
		w.Box.Room, w.Net.Room, w.Draws.Next = n, n, n
		v := deep(several()[1])
		v.Draws.Next, v.People[1].Clock, v.People[2].Clock = n, math.MaxUint32, math.MaxUint32
		u := several()[1]
		u.Draws.Next = n
		// Runs that may not be, beside some that wait.
		s := hold(hold(several()[1], 1, api.Run{}), 2, api.Run{Proto: n, Role: n, State: n})
		l = append(l, w, v, u, s)
	}
	for _, w := range l {
		for _, a := range edges {
			for _, b := range append(slices.Clone(edges), 5001, 5002, 5003, 5004, 5005, 5006) {
				for kind := range uint32(11) {
					m := api.Msg{Kind: kind, Run: a, A: a, B: b, Nonce: a, Box: b, More: a}
					nsb.Ticket(w, a, m)
					nsb.Back(w, a, m)
				}
			}
		}
	}
}
