package nsa_test

import (
	"fmt"
	"math"
	"math/rand"
	"reflect"
	"slices"
	"testing"

	"chamberlain/api"
	"chamberlain/desk"
	"chamberlain/ksn"
	"chamberlain/msg"
	"chamberlain/nsa"
	"chamberlain/people"
)

type row = []uint32

// edges are words that are easily taken for each other, or for nothing.
var edges = row{0, 1, 2, 3, 7, 255, 256, math.MaxInt32, 1 << 30, 1 << 31, 1<<31 | 99, 3 << 30, math.MaxUint32 - 1, math.MaxUint32}

// sameWorld and what it asks tell whether two are like each other in all that they have; nil and empty lists are one.
func sameWorld(a, b api.World) bool {
	return a.Conf == b.Conf && a.Draws.Next == b.Draws.Next && slices.Equal(a.Draws.List, b.Draws.List) &&
		a.Box.Room == b.Box.Room && slices.EqualFunc(a.Box.Sealed, b.Box.Sealed, sameEntry) &&
		a.Net.Room == b.Net.Room && slices.EqualFunc(a.Net.Grams, b.Net.Grams, sameGram) && sameRows(a.Net.Seen, b.Net.Seen) &&
		slices.EqualFunc(a.People, b.People, samePerson) && slices.Equal(a.Log, b.Log) && sameRows(a.Regs, b.Regs) && slices.Equal(a.Leaks, b.Leaks)
}

func sameEntry(a, b api.Sealed) bool {
	return a.Handle == b.Handle && a.Key == b.Key && a.Label == b.Label && slices.Equal(a.Plain, b.Plain)
}

func sameGram(a, b api.Gram) bool {
	return a.To == b.To && slices.Equal(a.Words, b.Words)
}

func sameRows(a, b []row) bool {
	return slices.EqualFunc(a, b, slices.Equal[row])
}

func samePerson(a, b api.Person) bool {
	return a.Name == b.Name && a.Key == b.Key && a.Clock == b.Clock && a.Corrupt == b.Corrupt && slices.Equal(a.Used, b.Used) && slices.Equal(a.Runs, b.Runs)
}

// words answers so many words, unlike those of another number.
func words(count, number int) row {
	var l row
	for i := range count {
		l = append(l, uint32(1000*number+i+1))
	}
	return l
}

// run answers a run that may be, like no other one of another number; none of them waits for a grant or an echo.
func run(number int) api.Run {
	n := uint32(number)
	return api.Run{Proto: api.ProtoOR, Role: 1 + number/2%2, Peer: n + 1, Mine: n + 2, Their: n + 3, M: n + 4, K: n + 5, T: n + 6, State: 1 + number%3}
}

// someone answers a person with so many used words and runs.
func someone(name uint32, number, used, many int) api.Person {
	p := api.Person{Name: name, Key: uint32(number + 5), Clock: uint32(number + 6), Used: words(used, number), Corrupt: number%2 == 1}
	for i := range many {
		p.Runs = append(p.Runs, run(number+i))
	}
	return p
}

// event answers an event that is like no other one of another number in anything.
func event(number int) api.Event {
	n := uint32(number)
	return api.Event{Kind: number, Proto: number + 1, Role: number + 2, A: n + 3, B: n + 4, K: n + 5, T: n + 6, M: n + 7, N: n + 8, Clock: n + 9}
}

// fresh answers a new world of three principals, in whose lists stands nothing; its next draws are 2^31 + 4, 5, 6 and so on.
func fresh() api.World {
	list := row{1, 2, 3, 4, 5, 6, 7, 8, 9, 10, 11, 12, 13, 14, 15}
	l, d, _ := people.New(3, api.Draws{List: list})
	return api.World{
		Conf:  api.Conf{Window: 5, People: 3, Box: 16, Used: 4, Runs: 4, Net: 6, Regs: 1},
		Draws: d, Box: api.Box{Room: 16}, Net: api.Net{Room: 6}, People: l, Regs: []row{nil},
	}
}

// ready answers a world that has its form, something in each of its lists, and room for more of everything.
func ready() api.World {
	return api.World{
		Conf:  api.Conf{Window: 9, People: 3, Box: 9, Used: 5, Runs: 6, Net: 6, Regs: 2},
		Draws: api.Draws{List: row{21, 22, 23, 24, 1<<31 | 25, 26, 27, 28, 29, 30}, Next: 3},
		Box:   api.Box{Room: 9, Sealed: []api.Sealed{{Handle: 31, Key: 41, Label: 3, Plain: words(3, 51)}, {Handle: 32, Key: 42, Label: 99, Plain: row{}}}},
		Net: api.Net{Room: 6, Grams: []api.Gram{{To: 1, Words: words(2, 61)}, {To: 200, Words: nil}, {To: 0, Words: words(7, 62)}},
			Seen: []row{words(2, 61), words(7, 62), {}, words(3, 63)}},
		People: []api.Person{someone(0, 70, 2, 1), someone(1, 71, 0, 0), someone(2, 74, 1, 3), someone(3, 77, 2, 2)},
		Log:    []api.Event{event(80), event(81)},
		Regs:   []row{words(4, 90), {}},
		Leaks:  []api.Leak{{K: 95, At: 1}, {K: 96, At: 2}},
	}
}

// greatest answers a world whose every limit is reached, but that there is room for just one run of each, one frame, and what is sealed for one echo.
func greatest() api.World {
	w := api.World{
		Conf:  api.Conf{Window: 1 << 20, People: 6, Box: 64, Used: 64, Runs: 64, Net: 64, Regs: 8},
		Draws: api.Draws{Next: 1<<20 - 1},
		Box:   api.Box{Room: 64},
		Net:   api.Net{Room: 64},
	}
	for i := range 62 {
		w.Box.Sealed = append(w.Box.Sealed, api.Sealed{Handle: uint32(i), Plain: words(64, i)})
	}
	for i := range 63 {
		w.Net.Grams = append(w.Net.Grams, api.Gram{To: uint32(i), Words: words(64, i)})
	}
	for i := range 300 {
		w.Net.Seen = append(w.Net.Seen, words(64, i))
	}
	for i := range 7 {
		w.People = append(w.People, someone(uint32(i), i, 64, 63))
		w.People[i].Clock = 1<<30 - 1
	}
	for i := range 8 {
		w.Regs = append(w.Regs, words(64, i))
	}
	return w
}

// least answers a world that has no more than it must so that one run can go on by any one step.
func least() api.World {
	return api.World{
		Conf: api.Conf{People: 2, Box: 2, Runs: 1, Net: 1, Regs: 1},
		Box:  api.Box{Room: 2}, Net: api.Net{Room: 1},
		People: []api.Person{{}, {Name: 1}, {Name: 2}}, Regs: []row{nil},
	}
}

// worlds answers worlds that have their form, in which there is room for one run more, and for what any one step of it needs.
func worlds() []api.World {
	return []api.World{fresh(), ready(), greatest(), least()}
}

// hold answers a world in which somebody has one run more, behind its others.
func hold(w api.World, name uint32, r api.Run) api.World {
	w.People = slices.Clone(w.People)
	w.People[name].Runs = append(slices.Clip(w.People[name].Runs), r)
	return w
}

// sealed answers a world with one entry more.
func sealed(w api.World, handle, key, label uint32, plain ...uint32) api.World {
	w.Box.Sealed = append(slices.Clip(w.Box.Sealed), api.Sealed{Handle: handle, Key: key, Label: label, Plain: plain})
	return w
}

// timed answers a world in which somebody's clock is another one.
func timed(w api.World, name, clock uint32) api.World {
	w.People = slices.Clone(w.People)
	w.People[name].Clock = clock
	return w
}

// call is one of the three calls, with what is handed in beside a world: two names; or one, and a message.
type call struct {
	what string
	a, b uint32
	m    api.Msg
}

func start(a, b uint32) call {
	return call{what: "Start", a: a, b: b}
}

func grant(me, box uint32) call {
	return call{what: "Grant", a: me, m: api.Msg{Kind: api.NS2, Box: box}}
}

func echo(me, box uint32) call {
	return call{what: "Echo", a: me, m: api.Msg{Kind: api.NS4, Box: box}}
}

// do does a call.
func (c call) do(w api.World) (api.World, api.Errno) {
	switch c.what {
	case "Start":
		return nsa.Start(w, c.a, c.b)
	case "Grant":
		return nsa.Grant(w, c.a, c.m)
	}
	return nsa.Echo(w, c.a, c.m)
}

// may asks whether something is promised of a call.
func (c call) may(w api.World) bool {
	me := c.what == "Start" || c.a > 0 && c.a < uint32(len(w.People))
	return desk.Form(w) && me && (c.what == "Start" || msg.May(c.m))
}

// waits answers a run that waits for a grant; what a run has that waits is whatever it was.
func waits(peer, mine uint32) api.Run {
	return api.Run{Proto: api.ProtoNS, Role: api.RoleA, Peer: peer, Mine: mine, Their: 93, M: 94, K: 95, T: 96, State: api.Waiting}
}

// runs answers a run that waits for an echo.
func runs(peer, mine, key, t uint32) api.Run {
	return api.Run{Proto: api.ProtoNS, Role: api.RoleA, Peer: peer, Mine: mine, Their: 93, M: 94, K: key, T: t, State: api.Running}
}

// asked answers a world in which a principal waits for a grant, and that grant comes; unlike numbers have unlike words.
func asked(w api.World, me, peer, number uint32) (api.World, call) {
	p := w.People[me]
	w = hold(w, me, waits(peer, 7000+number))
	w = sealed(w, 5000+number, p.Key, api.LabelGrant, 7000+number, peer, 9000+number, p.Clock, 6000+number)
	return w, grant(me, 5000+number)
}

// granted answers a world in which a principal waits for an echo, and that echo comes.
func granted(w api.World, me, peer, number uint32) (api.World, call) {
	w = hold(w, me, runs(peer, 7000+number, 9000+number, w.People[me].Clock))
	w = sealed(w, 5000+number, 9000+number, api.LabelEcho, 8000+number)
	return w, echo(me, 5000+number)
}

// hall is memory in which lists stand, with something ahead of each and behind it.
type hall struct {
	stays []func() bool
}

// in answers a list like the one handed in, which stands in a hall.
func in[T any](h *hall, l []T, odd T) []T {
	whole := slices.Concat([]T{odd}, l, []T{odd, odd, odd})
	was := slices.Clone(whole)
	// Lists that the list has stand in the hall themselves.
	h.stays = append(h.stays, func() bool { return reflect.DeepEqual(whole, was) })
	return whole[1 : 1+len(l)]
}

// each answers a list of lists, all of which stand in a hall, and so does the list.
func each(h *hall, l []row) []row {
	var m []row
	for _, one := range l {
		m = append(m, in(h, one, 7))
	}
	return in(h, m, row{8})
}

// roomy answers a world like the one handed in, which shares nothing with it, and all of whose lists stand in a hall.
func roomy(w api.World) (api.World, *hall) {
	h := &hall{}
	var entries []api.Sealed
	for _, s := range w.Box.Sealed {
		s.Plain = in(h, s.Plain, 7)
		entries = append(entries, s)
	}
	var grams []api.Gram
	for _, g := range w.Net.Grams {
		g.Words = in(h, g.Words, 7)
		grams = append(grams, g)
	}
	var folk []api.Person
	for _, p := range w.People {
		p.Used, p.Runs = in(h, p.Used, 7), in(h, p.Runs, run(8))
		folk = append(folk, p)
	}
	w.Draws.List = in(h, w.Draws.List, 7)
	w.Box.Sealed = in(h, entries, api.Sealed{Handle: 8})
	w.Net.Grams, w.Net.Seen = in(h, grams, api.Gram{To: 8}), each(h, w.Net.Seen)
	w.People = in(h, folk, api.Person{Name: 8})
	w.Log, w.Leaks = in(h, w.Log, event(8)), in(h, w.Leaks, api.Leak{K: 8})
	w.Regs = each(h, w.Regs)
	return w, h
}

// deep answers a copy of a world that shares nothing with it.
func deep(w api.World) api.World {
	v, _ := roomy(w)
	return v
}

// isAsItWas asks whether nothing in a hall was written into.
func (h *hall) isAsItWas() bool {
	return !slices.ContainsFunc(h.stays, func(stays func() bool) bool { return !stays() })
}

// fill fills a list, and the room behind its length, with something else.
func fill[T any](l []T, odd T) {
	for i := range l[:cap(l)] {
		l[:cap(l)][i] = odd
	}
}

// nth tells chapter 4's words anew: the i-th draw of a list.
func nth(list row, i int) uint32 {
	if i >= len(list) {
		return 3221225472 | uint32(i)
	}
	return list[i] | 2147483648
}

// opened tells the chapter's words anew: the words of an entry that opens, if there are so many.
func opened(w api.World, key, label, handle uint32, count int) (row, bool) {
	for _, s := range w.Box.Sealed {
		if s.Handle == handle {
			return s.Plain, s.Key == key && s.Label == label && len(s.Plain) == count
		}
	}
	return nil, false
}

// isFresh tells chapter 5's words anew, in whole numbers.
func isFresh(now, t, window uint32) bool {
	if now >= 1<<30 || t >= 1<<30 {
		return false
	}
	apart := int64(now) - int64(t)
	return max(apart, -apart) <= int64(window)
}

// sent tells the chapter's words anew: a frame is sent.
func sent(v *api.World, to uint32, words ...uint32) {
	v.Net.Grams = append(v.Net.Grams, api.Gram{To: to, Words: words})
	v.Net.Seen = append(v.Net.Seen, words)
}

// retold tells the chapter's words anew; it answers in new memory.
func (c call) retold(w api.World) (api.World, api.Errno) {
	v := deep(w)
	switch c.what {
	case "Start":
		return started(v, c.a, c.b)
	case "Grant":
		return taken(v, c.a, c.m.Box)
	}
	return committed(v, c.a, c.m.Box)
}

// started tells of A that begins.
func started(v api.World, a, b uint32) (api.World, api.Errno) {
	last := uint32(len(v.People) - 1)
	if a == 0 || b == 0 || a > last || b > last || a == b {
		return v, 5
	}
	me := &v.People[a]
	if len(me.Runs) == v.Conf.Runs || len(v.Net.Grams) == v.Net.Room {
		return v, 10
	}
	n := nth(v.Draws.List, v.Draws.Next)
	v.Draws.Next++
	me.Runs = append(me.Runs, api.Run{Proto: 1, Role: 1, Peer: b, Mine: n, State: 1})
	v.Log = append(v.Log, api.Event{Kind: 1, Proto: 1, Role: 1, A: a, B: b, N: n, Clock: me.Clock})
	sent(&v, 0, 1, 1, 1, 3, 1, a, 4, 1, b, 5, 1, n)
	return v, 0
}

// taken tells of a grant that comes.
func taken(v api.World, name, box uint32) (api.World, api.Errno) {
	me := &v.People[name]
	l, ok := opened(v, me.Key, 2, box, 5)
	if !ok {
		return v, 6
	}
	n, b, k, t, h := l[0], l[1], l[2], l[3], l[4]
	at := slices.IndexFunc(me.Runs, func(r api.Run) bool {
		return r.Proto == 1 && r.Role == 1 && r.State == 1 && r.Mine == n && r.Peer == b
	})
	if at < 0 {
		return v, 9
	}
	if !isFresh(me.Clock, t, v.Conf.Window) {
		return v, 7
	}
	if len(v.Net.Grams) == v.Net.Room {
		return v, 10
	}
	r := &me.Runs[at]
	r.K, r.T, r.State = k, t, 2
	v.Log = append(v.Log, api.Event{Kind: 3, Proto: 1, Role: 1, A: name, B: b, K: k, T: t, N: n, Clock: me.Clock})
	sent(&v, b, 1, 1, 3, 6, 1, h)
	return v, 0
}

// committed tells of an echo that comes.
func committed(v api.World, name, box uint32) (api.World, api.Errno) {
	me := &v.People[name]
	at := slices.IndexFunc(me.Runs, func(r api.Run) bool {
		_, ok := opened(v, r.K, 4, box, 1)
		return ok && r.Proto == 1 && r.Role == 1 && r.State == 2
	})
	if at < 0 {
		return v, 6
	}
	r := &me.Runs[at]
	if !isFresh(me.Clock, r.T, v.Conf.Window) {
		return v, 7
	}
	if len(v.Box.Sealed) == v.Box.Room || len(v.Net.Grams) == v.Net.Room {
		return v, 10
	}
	back := nth(v.Draws.List, v.Draws.Next)
	if slices.ContainsFunc(v.Box.Sealed, func(s api.Sealed) bool { return s.Handle == back }) {
		return v, 8
	}
	l, _ := opened(v, r.K, 4, box, 1)
	v.Draws.Next++
	v.Box.Sealed = append(v.Box.Sealed, api.Sealed{Handle: back, Key: r.K, Label: 5, Plain: row{l[0]}})
	r.Their, r.State = l[0], 3
	v.Log = append(v.Log, api.Event{Kind: 4, Proto: 1, Role: 1, A: name, B: r.Peer, K: r.K, T: r.T, N: l[0], Clock: me.Clock})
	sent(&v, r.Peer, 1, 1, 5, 6, 1, back)
	return v, 0
}

// check holds a call against the chapter's words, and answers what it did.
func check(t *testing.T, w api.World, c call) (api.World, api.Errno) {
	t.Helper()
	if !c.may(w) {
		t.Fatalf("nothing is promised of %+v, %+v", w, c)
	}
	want, wantErrno := c.retold(w)
	got, errno := c.do(w)
	if errno != wantErrno || !sameWorld(got, want) {
		t.Fatalf("%+v = %d, want %d: %+v, want %+v", c, errno, wantErrno, got, want)
	}
	if fits := got.Draws.Next <= 1<<20; desk.Form(got) != fits {
		t.Fatalf("%+v: its form", c)
	}
	return got, errno
}

// expect is check, where it is known what is to be told; it tells, too, that w comes back beside an error.
func expect(t *testing.T, w api.World, c call, want api.Errno) api.World {
	t.Helper()
	got, errno := check(t, w, c)
	if errno != want {
		t.Fatalf("%+v = %d, want %d", c, errno, want)
	}
	if errno != api.OK && !sameWorld(got, w) {
		t.Fatalf("%+v = %d, and another world", c, errno)
	}
	return got
}

// last answers the last event of a log.
func last(w api.World) api.Event {
	return w.Log[len(w.Log)-1]
}

// P15.1: a run of a new world, each of its three steps written out.
func TestWrittenOut(t *testing.T) {
	const nonce, key, their, back = 1<<31 + 4, 1<<31 + 77, 1<<31 + 88, 1<<31 + 5
	w := fresh()
	w.People[0].Clock, w.People[1].Clock, w.People[3].Clock = 7, 20, 9
	got, errno := nsa.Start(w, 1, 3)
	want := deep(w)
	want.Draws.Next = 4
	want.People[1].Runs = []api.Run{{Proto: api.ProtoNS, Role: api.RoleA, Peer: 3, Mine: nonce, State: api.Waiting}}
	want.Log = []api.Event{{Kind: api.EvStart, Proto: api.ProtoNS, Role: api.RoleA, A: 1, B: 3, N: nonce, Clock: 20}}
	want.Net.Grams = []api.Gram{{To: api.Server, Words: row{1, 1, 1, 3, 1, 1, 4, 1, 3, 5, 1, nonce}}}
	want.Net.Seen = []row{{1, 1, 1, 3, 1, 1, 4, 1, 3, 5, 1, nonce}}
	if errno != api.OK || !sameWorld(got, want) {
		t.Fatalf("%d: %+v, want %+v", errno, got, want)
	}
	w = timed(sealed(got, 50, 1<<31+1, api.LabelGrant, nonce, 3, key, 16, 66), 1, 21)
	got, errno = nsa.Grant(w, 1, api.Msg{Kind: api.NS2, Box: 50})
	want = deep(w)
	want.People[1].Runs[0].K, want.People[1].Runs[0].T, want.People[1].Runs[0].State = key, 16, api.Running
	want.Log = append(want.Log, api.Event{Kind: api.EvRun, Proto: api.ProtoNS, Role: api.RoleA, A: 1, B: 3, K: key, T: 16, N: nonce, Clock: 21})
	want.Net.Grams = append(want.Net.Grams, api.Gram{To: 3, Words: row{1, 1, 3, 6, 1, 66}})
	want.Net.Seen = append(want.Net.Seen, row{1, 1, 3, 6, 1, 66})
	if errno != api.OK || !sameWorld(got, want) {
		t.Fatalf("%d: %+v, want %+v", errno, got, want)
	}
	w = timed(sealed(got, 51, key, api.LabelEcho, their), 1, 19)
	got, errno = nsa.Echo(w, 1, api.Msg{Kind: api.NS4, Box: 51})
	want = deep(w)
	want.Draws.Next = 5
	want.Box.Sealed = append(want.Box.Sealed, api.Sealed{Handle: back, Key: key, Label: api.LabelBack, Plain: row{their}})
	want.People[1].Runs[0].Their, want.People[1].Runs[0].State = their, api.Done
	want.Log = append(want.Log, api.Event{Kind: api.EvCommit, Proto: api.ProtoNS, Role: api.RoleA, A: 1, B: 3, K: key, T: 16, N: their, Clock: 19})
	want.Net.Grams = append(want.Net.Grams, api.Gram{To: 3, Words: row{1, 1, 5, 6, 1, back}})
	want.Net.Seen = append(want.Net.Seen, row{1, 1, 5, 6, 1, back})
	if errno != api.OK || !sameWorld(got, want) {
		t.Fatalf("%d: %+v, want %+v", errno, got, want)
	}
}

// P15.1: the chapter's example: a start, and a grant of another nonce; of the run's own it is taken.
func TestAnotherNonce(t *testing.T) {
	for i, world := range []api.World{fresh(), ready(), greatest(), least()} {
		w := expect(t, world, start(1, 2), api.OK)
		nonce := last(w).N
		w.Net.Grams = w.Net.Grams[:len(w.Net.Grams)-1]
		me := w.People[1]
		for _, n := range append(slices.Clone(edges), nonce+1, nonce-1, nonce^1<<31) {
			if n == nonce {
				continue
			}
			v := sealed(w, 5000, me.Key, api.LabelGrant, n, 2, 77, me.Clock, 66)
			expect(t, v, grant(1, 5000), api.ErrState)
		}
		v := expect(t, sealed(w, 5000, me.Key, api.LabelGrant, nonce, 2, 77, me.Clock, 66), grant(1, 5000), api.OK)
		if e := last(v); e.N != nonce || e.K != 77 {
			t.Error(i, e)
		}
	}
}

// P15.1: what the server grants is taken, and its ticket handed on; whoever is asked by whom.
func TestFromTheServer(t *testing.T) {
	for a := uint32(1); a <= 3; a++ {
		for b := uint32(1); b <= 3; b++ {
			if a == b {
				continue
			}
			w := expect(t, fresh(), start(a, b), api.OK)
			m, errno := msg.Get(w.Net.Grams[0].Words)
			if errno != api.OK || w.Net.Grams[0].To != api.Server || m != (api.Msg{Kind: api.NS1, A: a, B: b, Nonce: w.People[a].Runs[0].Mine}) {
				t.Fatal(a, b, m, w.Net.Grams)
			}
			w, errno = ksn.Grant(w, m)
			if errno != api.OK {
				t.Fatal(a, b, errno)
			}
			key := last(w).K
			m, _ = msg.Get(w.Net.Grams[1].Words)
			w = expect(t, w, grant(w.Net.Grams[1].To, m.Box), api.OK)
			m, errno = msg.Get(w.Net.Grams[2].Words)
			if errno != api.OK || m.Kind != api.NS3 || w.Net.Grams[2].To != b {
				t.Fatal(a, b, m, w.Net.Grams)
			}
			ticket, ok := desk.Open(w, w.People[b].Key, api.LabelTicket, m.Box)
			if !ok || ticket != (api.Part{K: key, A: a, T: 0}) {
				t.Fatal(a, b, ticket, ok)
			}
			w, h, _ := desk.Seal(w, ticket.K, api.LabelEcho, api.Part{N: 55})
			w = expect(t, w, echo(a, h), api.OK)
			m, errno = msg.Get(w.Net.Grams[3].Words)
			if errno != api.OK || m.Kind != api.NS5 || w.Net.Grams[3].To != b {
				t.Fatal(a, b, m, w.Net.Grams)
			}
			back, ok := desk.Open(w, key, api.LabelBack, m.Box)
			if r := w.People[a].Runs[0]; !ok || back != (api.Part{N: 55}) || r.State != api.Done || r.K != key || r.Their != 55 {
				t.Fatal(a, b, back, ok, r)
			}
		}
	}
}

// P15.1: a back opens under the run's key alone, and with its label alone.
func TestWhoOpensTheBack(t *testing.T) {
	for i, world := range worlds() {
		w, c := granted(world, 1, 2, 1)
		v := expect(t, w, c, api.OK)
		handle := v.Box.Sealed[len(w.Box.Sealed)].Handle
		keys := row{9001}
		for _, p := range v.People {
			keys = append(keys, p.Key)
		}
		for _, key := range append(keys, edges...) {
			for label := range uint32(12) {
				if p, ok := desk.Open(v, key, label, handle); ok != (key == 9001 && label == api.LabelBack) || ok && p != (api.Part{N: 8001}) {
					t.Fatal(i, key, label, p, ok)
				}
			}
		}
	}
}

// P15.1, Start: names: a run is of two principals, unlike; the server is none, and nobody else has a name.
func TestStartNames(t *testing.T) {
	for i, world := range worlds() {
		many := uint32(world.Conf.People)
		tried := append(slices.Clone(edges), 4, 5, 6, 8, many, many+1, 1<<31|1, 1<<31|2, 257, 258, 1<<16|1)
		for _, p := range world.People {
			// A key, a clock and what was used are no names.
			tried = append(tried, p.Key, p.Clock)
		}
		for _, a := range tried {
			for _, b := range tried {
				want := api.ErrName
				if a >= 1 && a <= many && b >= 1 && b <= many && a != b {
					want = api.OK
				}
				if _, errno := check(t, world, start(a, b)); errno != want {
					t.Fatal(i, a, b, errno)
				}
			}
		}
	}
}

// P15.1, Start: a world of one principal has no pair.
func TestStartOnePrincipal(t *testing.T) {
	w := least()
	w.Conf.People, w.People = 1, w.People[:2]
	for a := range uint32(4) {
		for b := range uint32(4) {
			expect(t, w, start(a, b), api.ErrName)
		}
	}
}

// P15.1, Start: one run more is begun while A has less than Conf's Runs, whatever runs they are; nobody else's count.
func TestStartRuns(t *testing.T) {
	for _, room := range []int{0, 1, 2, 3, 4, 31, 63, 64} {
		for have := max(0, room-3); have <= room; have++ {
			for kind := range 12 {
				w := ready()
				w.Conf.Runs = room
				for p := range w.People {
					// Those of the others are as many as there may be.
					w.People[p].Runs = slices.Repeat([]api.Run{run(kind)}, room)
				}
				w.People[1].Runs = nil
				for range have {
					w.People[1].Runs = append(w.People[1].Runs, api.Run{Proto: 1 + kind%2, Role: 1 + kind/2%2, State: 1 + kind/4, Peer: 2})
				}
				want := api.OK
				if have == room {
					want = api.ErrFull
				}
				if v := expect(t, w, start(1, 2), want); want == api.OK && len(v.People[1].Runs) != have+1 {
					t.Fatal(room, have, v.People[1].Runs)
				}
				if room > 0 {
					expect(t, w, start(2, 1), api.ErrFull)
				}
			}
		}
	}
}

// P15.1: each step needs room for a frame; an echo's for a seal, too, and for no more.
func TestRoom(t *testing.T) {
	for boxes := range 4 {
		for frames := range 3 {
			for entries := range 3 {
				for grams := range 4 {
					w := ready()
					w.Box.Sealed, w.Net.Grams = w.Box.Sealed[:entries], w.Net.Grams[:grams]
					one, g := asked(w, 2, 3, 1)
					two, e := granted(w, 2, 3, 1)
					for i, x := range []struct {
						w     api.World
						c     call
						seals int
					}{{w, start(1, 2), 0}, {one, g, 0}, {two, e, 1}} {
						v := x.w
						v.Conf.Box, v.Conf.Net = len(v.Box.Sealed)+boxes, grams+frames
						v.Box.Room, v.Net.Room = v.Conf.Box, v.Conf.Net
						want := api.ErrFull
						if boxes >= x.seals && frames >= 1 {
							want = api.OK
						}
						if got, errno := check(t, v, x.c); errno != want || errno != api.OK && !sameWorld(got, v) {
							t.Fatal(i, boxes, frames, entries, grams, errno)
						}
					}
				}
			}
		}
	}
}

// P15.1: the greatest rooms: with just the room that is asked for, and full.
func TestGreatestRoom(t *testing.T) {
	w := greatest()
	one, g := asked(w, 6, 5, 1)
	two, e := granted(w, 6, 5, 1)
	for _, x := range []struct {
		w api.World
		c call
	}{{w, start(6, 5)}, {one, g}, {two, e}} {
		v := expect(t, x.w, x.c, api.OK)
		if len(v.Net.Grams) != 64 || len(v.Net.Seen) != 301 || len(v.People[6].Runs) != 64 || x.c.what == "Echo" && len(v.Box.Sealed) != 64 {
			t.Fatal(len(v.Net.Grams), len(v.Net.Seen), len(v.People[6].Runs), len(v.Box.Sealed))
		}
		full := deep(x.w)
		full.Net.Grams = append(full.Net.Grams, api.Gram{To: 99})
		expect(t, full, x.c, api.ErrFull)
	}
	two.Box.Sealed = append(slices.Clip(two.Box.Sealed), api.Sealed{Handle: 99})
	expect(t, two, e, api.ErrFull)
	w.People[6].Runs = append(w.People[6].Runs, run(1))
	expect(t, w, start(6, 5), api.ErrFull)
}

// P15.1, Start: clocks refuse nothing, those at their ends neither: A's stands in the event, and that is all.
func TestStartClocks(t *testing.T) {
	ends := []uint32{0, 1, 2, 5, 1 << 20, 1<<20 + 1, 1 << 29, 1<<30 - 1, 1 << 30}
	for i, world := range worlds() {
		for _, now := range ends {
			for _, theirs := range ends {
				for _, window := range []uint32{0, 1, 1 << 20} {
					w := deep(world)
					w.Conf.Window = window
					for p := range w.People {
						w.People[p].Clock = theirs
					}
					w.People[2].Clock = now
					v := expect(t, w, start(2, 1), api.OK)
					if e := last(v); e.Clock != now || e.T != 0 || v.People[2].Clock != now || v.People[1].Clock != theirs {
						t.Fatal(i, now, theirs, window, e)
					}
				}
			}
		}
	}
}

// times are clocks and times that lie near each other, near a window's ends and near the end of clocks.
func times(now, window uint32) []uint32 {
	l := []uint32{0, 1, 1<<30 - 1, 1 << 30, 1<<30 + 1, math.MaxUint32, now}
	for _, by := range []uint32{1, 2, window - 1, window, window + 1} {
		l = append(l, now+by, now-by)
	}
	return l
}

// P15.1, Grant and Echo: T is fresh for my clock, and Conf's Window; whatever clocks the others have. At the end of clocks it never is.
func TestFresh(t *testing.T) {
	told := map[api.Errno]int{}
	for _, world := range []api.World{fresh(), ready(), least()} {
		for _, window := range []uint32{0, 1, 2, 9, 1 << 20} {
			for _, now := range []uint32{0, 1, 10, 1 << 20, 1<<20 + 1, 1<<30 - 1<<20, 1<<30 - 2, 1<<30 - 1, 1 << 30} {
				for _, time := range times(now, window) {
					for _, theirs := range []uint32{time, 1 << 30} {
						w := deep(world)
						w.Conf.Window = window
						for p := range w.People {
							w.People[p].Clock = min(theirs, 1<<30)
						}
						w.People[2].Clock = now
						one, g := asked(w, 2, 1, 1)
						one.Box.Sealed[len(one.Box.Sealed)-1].Plain[3] = time
						two, e := granted(w, 2, 1, 1)
						l := two.People[2].Runs
						l[len(l)-1].T = time
						want := api.ErrStale
						if isFresh(now, time, window) {
							want = api.OK
						}
						expect(t, one, g, want)
						expect(t, two, e, want)
						told[want]++
					}
				}
			}
		}
	}
	if told[api.OK] < 100 || told[api.ErrStale] < 100 {
		t.Error(told)
	}
}

// P15.1, Grant and Echo: a window's edges, written out: fresh at the window, on either side, not beyond it.
func TestFreshWrittenOut(t *testing.T) {
	for _, x := range []struct {
		now, time uint32
		want      api.Errno
	}{
		{10, 10, api.OK}, {10, 7, api.OK}, {10, 6, api.ErrStale}, {10, 13, api.OK}, {10, 14, api.ErrStale}, {0, 0, api.OK}, {0, 3, api.OK}, {0, 4, api.ErrStale},
		{1<<30 - 1, 1<<30 - 4, api.OK}, {1<<30 - 1, 1<<30 - 5, api.ErrStale}, {1<<30 - 1, 1 << 30, api.ErrStale}, {1 << 30, 1<<30 - 1, api.ErrStale}, {1 << 30, 1 << 30, api.ErrStale},
	} {
		w := timed(ready(), 1, x.now)
		w.Conf.Window = 3
		one, g := asked(w, 1, 2, 1)
		one.Box.Sealed[2].Plain[3] = x.time
		two, e := granted(w, 1, 2, 1)
		two.People[1].Runs[0].T = x.time
		expect(t, one, g, x.want)
		expect(t, two, e, x.want)
	}
}

// P15.1, Grant: the grant has a time; what the waiting run has as one says nothing. Echo: the run has one; the grants in the box say nothing.
func TestWhoseTime(t *testing.T) {
	w := timed(ready(), 1, 100)
	one, g := asked(w, 1, 2, 1)
	two, e := granted(w, 1, 2, 1)
	for _, time := range append(slices.Clone(edges), 100, 91, 90, 109, 110) {
		one.People[1].Runs[0].T, one.People[1].Runs[0].K = time, time
		v := expect(t, one, g, api.OK)
		if r := v.People[1].Runs[0]; r.T != 100 || r.K != 9001 {
			t.Fatal(r)
		}
		two = sealed(w, 5001, 9001, api.LabelEcho, time)
		two.People = hold(w, 1, runs(2, 7001, 9001, 100)).People
		two = sealed(two, 5002, two.People[1].Key, api.LabelGrant, 7001, 2, 9001, time, 66)
		expect(t, two, e, api.OK)
	}
}

// turned tells what becomes of a call when an entry is another one.
func turned(t *testing.T, w api.World, c call, at int, s api.Sealed, ok bool) {
	t.Helper()
	w.Box.Sealed = slices.Clone(w.Box.Sealed)
	w.Box.Sealed[at] = s
	want := api.ErrOpen
	if ok {
		want = api.OK
	}
	if _, errno := check(t, w, c); errno != want {
		t.Fatalf("%+v of %+v: %d, want %d", c, s, errno, want)
	}
}

// P15.1, Grant and Echo: a Box opens under one key, with one label, and of so many words; of each all that may be wrong is tried.
func TestBoxes(t *testing.T) {
	for _, world := range worlds() {
		one, g := asked(world, 2, 1, 1)
		two, e := granted(world, 2, 1, 1)
		for _, x := range []struct {
			w api.World
			c call
		}{{one, g}, {two, e}} {
			at := len(world.Box.Sealed)
			right := x.w.Box.Sealed[at]
			for label := range uint32(13) {
				s := right
				s.Label = label
				turned(t, x.w, x.c, at, s, label == right.Label)
			}
			keys := append(slices.Clone(edges), right.Key^1, right.Key^1<<31, 7001, 9001, 95, 93)
			for _, p := range x.w.People {
				keys = append(keys, p.Key, p.Clock)
			}
			for _, key := range keys {
				s := right
				s.Key = key
				turned(t, x.w, x.c, at, s, key == right.Key)
			}
			for _, handle := range append(slices.Clone(edges), right.Handle^1, right.Handle^1<<31) {
				if !slices.ContainsFunc(x.w.Box.Sealed, func(s api.Sealed) bool { return s.Handle == handle }) {
					s := right
					s.Handle = handle
					turned(t, x.w, x.c, at, s, false)
				}
			}
			for count := range 65 {
				s := right
				s.Plain = words(count, 1)
				copy(s.Plain, right.Plain)
				turned(t, x.w, x.c, at, s, count == len(right.Plain))
			}
		}
	}
}

// P15.1, Grant and Echo: handles in the message: of nothing that was sealed, and of other entries.
func TestHandlesAsked(t *testing.T) {
	for _, world := range []api.World{fresh(), ready(), least()} {
		one, g := asked(world, 2, 1, 1)
		two, e := granted(world, 2, 1, 1)
		for _, x := range []struct {
			w api.World
			c call
		}{{one, g}, {two, e}} {
			tried := append(slices.Clone(edges), 5001, 5002, 5001|1<<31, 6001, 7001, 8001, 9001, nth(world.Draws.List, world.Draws.Next))
			for _, s := range x.w.Box.Sealed {
				tried = append(tried, s.Handle, s.Key)
			}
			for _, box := range tried {
				c := x.c
				c.m.Box = box
				want := api.ErrOpen
				if box == 5001 {
					want = api.OK
				}
				expect(t, x.w, c, want)
			}
		}
	}
}

// P15.1, Grant and Echo: of those who may be me the one whose run it is takes it, and nobody else.
func TestWhoseRun(t *testing.T) {
	for _, world := range worlds()[:3] {
		for me := uint32(1); me <= 3; me++ {
			for other := uint32(1); other <= 3; other++ {
				// A key of its own has each of them in these worlds.
				one, g := asked(world, me, 1+me%3, 1)
				two, e := granted(world, me, 1+me%3, 1)
				g.a, e.a = other, other
				want := api.ErrOpen
				if other == me {
					want = api.OK
				}
				expect(t, one, g, want)
				expect(t, two, e, want)
			}
		}
	}
	// Of like long-term keys a grant opens, but the run is another one's.
	w, g := asked(ready(), 1, 2, 1)
	w.People[3].Key = w.People[1].Key
	expect(t, w, g, api.OK)
	g.a = 3
	expect(t, w, g, api.ErrState)
}

// P15.1, Grant: which run waits for it: one ProtoNS, RoleA, Waiting, with its N and with its B; whatever else it has.
func TestGrantState(t *testing.T) {
	for _, world := range []api.World{fresh(), ready(), least()} {
		w, g := asked(world, 1, 2, 1)
		at := len(w.People[1].Runs) - 1
		right := w.People[1].Runs[at]
		with := func(r api.Run) {
			t.Helper()
			v := w
			v.People = slices.Clone(w.People)
			v.People[1].Runs = slices.Clone(w.People[1].Runs)
			v.People[1].Runs[at] = r
			want := api.ErrState
			if r.Proto == 1 && r.Role == 1 && r.State == 1 && r.Mine == 7001 && r.Peer == 2 {
				want = api.OK
			}
			got := expect(t, v, g, want)
			r.K, r.T, r.State = 9001, w.People[1].Clock, 2
			if want == api.OK && got.People[1].Runs[at] != r {
				t.Fatal(got.People[1].Runs[at], r)
			}
		}
		for proto := 1; proto <= 2; proto++ {
			for role := 1; role <= 2; role++ {
				for state := 1; state <= 3; state++ {
					r := right
					r.Proto, r.Role, r.State = proto, role, state
					with(r)
				}
			}
		}
		for _, word := range append(slices.Clone(edges), 7001, 7000, 7002, 7001|1<<31, 9001, 6001) {
			for place := range 6 {
				r := right
				*[]*uint32{&r.Peer, &r.Mine, &r.Their, &r.M, &r.K, &r.T}[place] = word
				with(r)
			}
		}
		v := w
		v.People = slices.Clone(w.People)
		v.People[1].Runs = w.People[1].Runs[:at]
		expect(t, v, g, api.ErrState)
	}
}

// P15.1, Grant: each word of the grant: N and B are the run's, T is fresh, K and H may be whatever.
func TestGrantWords(t *testing.T) {
	for _, world := range worlds() {
		w, g := asked(world, 2, 1, 1)
		at := len(world.Box.Sealed)
		for place := range 5 {
			for _, word := range append(slices.Clone(edges), w.Box.Sealed[at].Plain[place], w.People[2].Clock, 7001, 9001) {
				v := w
				v.Box.Sealed = slices.Clone(w.Box.Sealed)
				v.Box.Sealed[at].Plain = slices.Clone(v.Box.Sealed[at].Plain)
				v.Box.Sealed[at].Plain[place] = word
				want := api.OK
				switch {
				case place == 0 && word != 7001, place == 1 && word != 1:
					want = api.ErrState
				case place == 3 && !isFresh(w.People[2].Clock, word, w.Conf.Window):
					want = api.ErrStale
				}
				got := expect(t, v, g, want)
				if l := got.Net.Grams; want == api.OK && (l[len(l)-1].Words[5] != v.Box.Sealed[at].Plain[4] || last(got).K != v.Box.Sealed[at].Plain[2]) {
					t.Fatal(place, word, l)
				}
			}
		}
	}
}

// P15.1, Grant and Echo: a peer may be whatever name, of nobody too: it is sent to, and stands in the event.
func TestPeers(t *testing.T) {
	for _, world := range worlds() {
		for _, peer := range append(slices.Clone(edges), 4, 5, 6, 200) {
			one, g := asked(world, 2, peer, 1)
			two, e := granted(world, 2, peer, 1)
			for _, v := range []api.World{expect(t, one, g, api.OK), expect(t, two, e, api.OK)} {
				if to := v.Net.Grams[len(v.Net.Grams)-1].To; to != peer || last(v).B != peer || last(v).A != 2 {
					t.Fatal(peer, to, last(v))
				}
			}
		}
	}
}

// P15.1, Grant: of several runs the first that is right counts; those with the same Mine that aren't stay as they are.
func TestGrantFirst(t *testing.T) {
	right := waits(2, 7001)
	wrong := []api.Run{waits(3, 7001), waits(2, 7000), runs(2, 7001, 9001, 100), run(5)}
	for _, turn := range []func(r *api.Run){func(r *api.Run) { r.Proto = 2 }, func(r *api.Run) { r.Role = 2 }, func(r *api.Run) { r.State = 2 }, func(r *api.Run) { r.State = 3 }} {
		r := right
		turn(&r)
		wrong = append(wrong, r)
	}
	for _, one := range wrong {
		for _, two := range wrong {
			for at := range 3 {
				l := slices.Insert([]api.Run{one, two}, at, right)
				checkTaken(t, l, at)
				// Another one that is right stands behind it.
				other := right
				other.M = 999
				for behind := at + 1; behind <= 3; behind++ {
					checkTaken(t, slices.Insert(slices.Clone(l), behind, other), at)
				}
			}
		}
	}
}

// checkTaken tells that of a row of runs the one at a place takes the grant, and no other one.
func checkTaken(t *testing.T, l []api.Run, at int) {
	t.Helper()
	w, g := asked(timed(ready(), 1, 100), 1, 2, 1)
	w.People[1].Runs = l
	v := expect(t, w, g, api.OK)
	want := slices.Clone(l)
	want[at].K, want[at].T, want[at].State = 9001, 100, api.Running
	if !slices.Equal(v.People[1].Runs, want) {
		t.Fatal(v.People[1].Runs, want)
	}
}

// P15.1, Grant: the same grant once more is of no run that waits; but of a second one, with the same Mine and Peer, it is.
func TestGrantTwice(t *testing.T) {
	w, g := asked(timed(ready(), 1, 100), 1, 2, 1)
	v := expect(t, w, g, api.OK)
	expect(t, v, g, api.ErrState)
	v = expect(t, hold(w, 1, waits(2, 7001)), g, api.OK)
	v = expect(t, v, g, api.OK)
	if l := v.People[1].Runs; l[0] != runs(2, 7001, 9001, 100) || l[1] != l[0] {
		t.Fatal(l)
	}
	expect(t, v, g, api.ErrState)
}

// P15.1, Echo: which run it is for: one ProtoNS, RoleA, Running, under whose K it opens; whatever else it has, but its time.
func TestEchoRuns(t *testing.T) {
	for _, world := range []api.World{fresh(), ready(), least()} {
		w, e := granted(world, 1, 2, 1)
		at := len(w.People[1].Runs) - 1
		right := w.People[1].Runs[at]
		with := func(r api.Run) {
			t.Helper()
			v := w
			v.People = slices.Clone(w.People)
			v.People[1].Runs = slices.Clone(w.People[1].Runs)
			v.People[1].Runs[at] = r
			want := api.ErrOpen
			if r.Proto == 1 && r.Role == 1 && r.State == 2 && r.K == 9001 {
				want = api.ErrStale
				if isFresh(w.People[1].Clock, r.T, w.Conf.Window) {
					want = api.OK
				}
			}
			got := expect(t, v, e, want)
			r.Their, r.State = 8001, 3
			if want == api.OK && got.People[1].Runs[at] != r {
				t.Fatal(got.People[1].Runs[at], r)
			}
		}
		for proto := 1; proto <= 2; proto++ {
			for role := 1; role <= 2; role++ {
				for state := 1; state <= 3; state++ {
					r := right
					r.Proto, r.Role, r.State = proto, role, state
					with(r)
				}
			}
		}
		for _, word := range append(slices.Clone(edges), 9001, 9000, 9002, 9001|1<<31, 8001, 7001) {
			for place := range 6 {
				r := right
				*[]*uint32{&r.Peer, &r.Mine, &r.Their, &r.M, &r.K, &r.T}[place] = word
				with(r)
			}
		}
		v := w
		v.People = slices.Clone(w.People)
		v.People[1].Runs = w.People[1].Runs[:at]
		expect(t, v, e, api.ErrOpen)
	}
}

// P15.1, Echo: it has whatever nonce, which is the run's Their then, stands in the event and is sealed in the back.
func TestEchoNonces(t *testing.T) {
	for _, world := range worlds() {
		w, e := granted(world, 2, 1, 1)
		at := len(world.Box.Sealed)
		next := nth(world.Draws.List, world.Draws.Next)
		for _, n := range append(slices.Clone(edges), next, next+1, 5001, 7001, 8001, 9001, 93, w.People[2].Key) {
			w.Box.Sealed[at].Plain[0] = n
			v := expect(t, w, e, api.OK)
			if l := v.People[2].Runs; l[len(l)-1].Their != n || last(v).N != n || !slices.Equal(v.Box.Sealed[at+1].Plain, row{n}) {
				t.Fatal(n, l, last(v), v.Box.Sealed[at:])
			}
		}
	}
}

// P15.1, Echo: of several runs the first counts for which it opens; whether its time is fresh, or another one's would be.
func TestEchoFirst(t *testing.T) {
	right := runs(2, 7001, 9001, 100)
	wrong := []api.Run{runs(2, 7001, 9000, 100), waits(2, 7001), run(5)}
	for _, turn := range []func(r *api.Run){func(r *api.Run) { r.Proto = 2 }, func(r *api.Run) { r.Role = 2 }, func(r *api.Run) { r.State = 1 }, func(r *api.Run) { r.State = 3 }} {
		r := right
		turn(&r)
		wrong = append(wrong, r)
	}
	for _, one := range wrong {
		for _, two := range wrong {
			for at := range 3 {
				l := slices.Insert([]api.Run{one, two}, at, right)
				checkCommits(t, l, at, api.OK)
				// Another one for which it opens, too, stands behind it.
				other := runs(3, 7009, 9001, 101)
				stale := right
				stale.T = 90
				for behind := at + 1; behind <= 3; behind++ {
					m := slices.Insert(slices.Clone(l), behind, other)
					checkCommits(t, m, at, api.OK)
					m[at] = stale
					checkCommits(t, m, at, api.ErrStale)
					m[at], m[behind] = right, stale
					checkCommits(t, m, at, api.OK)
				}
			}
		}
	}
}

// checkCommits tells that of a row of runs the one at a place takes the echo, and no other one; or that none does.
func checkCommits(t *testing.T, l []api.Run, at int, errno api.Errno) {
	t.Helper()
	w, e := granted(timed(ready(), 1, 100), 1, 2, 1)
	w.People[1].Runs = slices.Clone(l)
	v := expect(t, w, e, errno)
	want := slices.Clone(l)
	if errno == api.OK {
		want[at].Their, want[at].State = 8001, api.Done
	}
	if !slices.Equal(v.People[1].Runs, want) {
		t.Fatal(v.People[1].Runs, want)
	}
}

// P15.1, Echo: the same echo once more is for no run; but for a second one with the same key it is. A run of the second key alone is found behind one of another.
func TestEchoTwice(t *testing.T) {
	w, e := granted(timed(ready(), 1, 100), 1, 2, 1)
	v := expect(t, w, e, api.OK)
	expect(t, v, e, api.ErrOpen)
	v = expect(t, hold(w, 1, runs(3, 7002, 9001, 99)), e, api.OK)
	v = expect(t, v, e, api.OK)
	if l := v.People[1].Runs; l[0].State != api.Done || l[1].State != api.Done || last(v).B != 3 || last(v).T != 99 {
		t.Fatal(l, last(v))
	}
	expect(t, v, e, api.ErrOpen)
	w, e = granted(hold(timed(ready(), 1, 100), 1, runs(3, 7002, 9002, 99)), 1, 2, 1)
	v = expect(t, w, e, api.OK)
	if l := v.People[1].Runs; l[0].State != api.Running || l[1].State != api.Done || last(v).B != 2 || last(v).T != 100 {
		t.Fatal(l, last(v))
	}
}

// P15.1: several runs of one principal, with one peer and with several, and of two with each other, one inside the other.
func TestSeveral(t *testing.T) {
	w := fresh()
	w.Conf.Net, w.Net.Room, w.Conf.Box, w.Box.Room = 30, 30, 30, 30
	pairs := [][2]uint32{{1, 2}, {1, 3}, {1, 2}, {2, 1}, {1, 2}, {3, 1}}
	var nonces row
	for i, x := range pairs {
		w = expect(t, w, start(x[0], x[1]), api.OK)
		if nonces = append(nonces, last(w).N); last(w).N != 1<<31+uint32(4+i) {
			t.Fatal(i, last(w))
		}
	}
	expect(t, w, start(1, 3), api.ErrFull)
	for i, at := range []int{4, 0, 3, 2, 5, 1} {
		// Of each run with one peer another one's nonce is no help.
		x := pairs[at]
		w = sealed(w, uint32(50+at), w.People[x[0]].Key, api.LabelGrant, nonces[at], x[1], uint32(70+at), uint32(i%3), uint32(60+at))
		w = expect(t, w, grant(x[0], uint32(50+at)), api.OK)
		expect(t, w, grant(x[0], uint32(50+at)), api.ErrState)
		if e := last(w); e != (api.Event{Kind: 3, Proto: 1, Role: 1, A: x[0], B: x[1], K: uint32(70 + at), T: uint32(i % 3), N: nonces[at]}) {
			t.Fatal(i, at, e)
		}
	}
	for i, at := range []int{2, 5, 0, 1, 4, 3} {
		x := pairs[at]
		w = sealed(w, uint32(80+at), uint32(70+at), api.LabelEcho, uint32(90+at))
		w = expect(t, w, echo(x[0], uint32(80+at)), api.OK)
		expect(t, w, echo(x[0], uint32(80+at)), api.ErrOpen)
		if e := last(w); e.A != x[0] || e.B != x[1] || e.K != uint32(70+at) || e.N != uint32(90+at) || e.Kind != 4 {
			t.Fatal(i, at, e)
		}
	}
	for _, p := range w.People {
		if slices.ContainsFunc(p.Runs, func(r api.Run) bool { return r.State != api.Done || r.M != 0 }) {
			t.Fatal(p)
		}
	}
}

// fault is what may stand in the way of a call.
type fault struct {
	name  string
	errno api.Errno
	make  func(w *api.World, c *call)
}

// netFull and what stands beside it are faults of several calls, in ready.
func netFull(w *api.World, c *call) { w.Conf.Net, w.Net.Room = 3, 3 }
func boxFull(w *api.World, c *call) { w.Conf.Box, w.Box.Room = len(w.Box.Sealed), len(w.Box.Sealed) }
func clockEnd(w *api.World, c *call) {
	w.People[c.a].Clock = 1 << 30
}

// faults are what may stand in the way of each call, of 2 with 3 in ready, in the chapter's order; errors of one kind stand beside each other.
var faults = map[string][]fault{
	"Start": {
		{"like names", api.ErrName, func(w *api.World, c *call) { c.b = c.a }},
		{"as many runs", api.ErrFull, func(w *api.World, c *call) { w.Conf.Runs = len(w.People[2].Runs) }},
		{"net full", api.ErrFull, netFull},
	},
	"Grant": {
		{"another label", api.ErrOpen, func(w *api.World, c *call) { w.Box.Sealed[2].Label = api.LabelTicket }},
		{"another key", api.ErrOpen, func(w *api.World, c *call) { w.Box.Sealed[2].Key++ }},
		{"another nonce", api.ErrState, func(w *api.World, c *call) { w.Box.Sealed[2].Plain[0]++ }},
		{"another peer", api.ErrState, func(w *api.World, c *call) { w.People[2].Runs[3].Peer = 1 }},
		{"another state", api.ErrState, func(w *api.World, c *call) { w.People[2].Runs[3].State = api.Running }},
		{"stale", api.ErrStale, func(w *api.World, c *call) { w.Box.Sealed[2].Plain[3] += 10 }},
		{"clock at its end", api.ErrStale, clockEnd},
		{"net full", api.ErrFull, netFull},
	},
	"Echo": {
		{"another label", api.ErrOpen, func(w *api.World, c *call) { w.Box.Sealed[2].Label = api.LabelBack }},
		{"another key", api.ErrOpen, func(w *api.World, c *call) { w.People[2].Runs[3].K++ }},
		{"another state", api.ErrOpen, func(w *api.World, c *call) { w.People[2].Runs[3].State = api.Waiting }},
		{"stale", api.ErrStale, func(w *api.World, c *call) { w.People[2].Runs[3].T += 10 }},
		{"clock at its end", api.ErrStale, clockEnd},
		{"box full", api.ErrFull, boxFull},
		{"net full", api.ErrFull, netFull},
		{"back's handle used", api.ErrReplay, func(w *api.World, c *call) { w.Box.Sealed[1].Handle = 1<<31 | 24 }},
	},
}

// tried answers, of each call, a world in which it is right, with 2 as A and 3 as B.
func tried(what string) (api.World, call) {
	switch what {
	case "Start":
		return deep(ready()), start(2, 3)
	case "Grant":
		return asked(deep(ready()), 2, 3, 1)
	}
	return granted(deep(ready()), 2, 3, 1)
}

// P15.1: of several errors that apply the one is told that the chapter names first, and nothing is done; for each set of what may stand in the way.
func TestFirstError(t *testing.T) {
	for what, list := range faults {
		for set := range 1 << len(list) {
			w, c := tried(what)
			want := api.OK
			var names []string
			for i, f := range list {
				if set>>i&1 == 0 {
					continue
				}
				f.make(&w, &c)
				names = append(names, f.name)
				if want == api.OK {
					want = f.errno
				}
			}
			was := deep(w)
			got, errno := check(t, w, c)
			if errno != want {
				t.Errorf("%s, %q: %d, want %d", what, names, errno, want)
			}
			if want != api.OK && !sameWorld(got, was) {
				t.Errorf("%s, %q: another world", what, names)
			}
		}
	}
}

// P15.1: names that make no pair, each kind of them, are told ahead of all else.
func TestNamesAheadOfAll(t *testing.T) {
	for _, x := range [][2]uint32{{0, 1}, {1, 0}, {0, 0}, {2, 2}, {1, 4}, {4, 1}, {math.MaxUint32, 1}, {1, math.MaxUint32}} {
		w := ready()
		w.Conf.Runs = 3
		for p := range w.People {
			w.People[p].Runs = slices.Repeat([]api.Run{run(3)}, 3)
		}
		expect(t, w, start(x[0], x[1]), api.ErrName)
		netFull(&w, nil)
		expect(t, w, start(x[0], x[1]), api.ErrName)
	}
}

// P15.1, Start: N is drawn, and is no handle: whatever stands in the box, and whatever other runs have it, the run begins. Grant draws nothing.
func TestNonceLikeOther(t *testing.T) {
	w := ready()
	next := nth(w.Draws.List, w.Draws.Next)
	w.Box.Sealed[0].Handle, w.People[0].Used = next, row{next}
	w = hold(w, 1, waits(2, next))
	v := expect(t, w, start(1, 2), api.OK)
	if l := v.People[1].Runs; l[1] != (api.Run{Proto: 1, Role: 1, Peer: 2, Mine: next, State: 1}) {
		t.Fatal(l)
	}
	// Of two runs with one nonce the first one takes the grant.
	v = sealed(v, 50, v.People[1].Key, api.LabelGrant, next, 2, 70, v.People[1].Clock, 60)
	v = expect(t, v, grant(1, 50), api.OK)
	if l := v.People[1].Runs; l[0].State != api.Running || l[1].State != api.Waiting || v.Draws.Next != 4 {
		t.Fatal(l)
	}
}

// P15.1, Echo: a draw that is a handle already can't be the back's: w comes back, with nothing drawn.
func TestHandlesUsed(t *testing.T) {
	for _, x := range []struct {
		name   string
		list   row
		handle uint32
		want   api.Errno
	}{
		{"unlike", row{40, 41}, 31, api.OK},
		{"the back's is one", row{40, 41}, 1<<31 | 40, api.ErrReplay},
		{"the next one's is one", row{40, 41}, 1<<31 | 41, api.OK},
		{"without the draw's bit it is another one", row{40, 41}, 40, api.OK},
		{"with the bit in the list", row{1<<31 | 40}, 1<<31 | 40, api.ErrReplay},
		{"behind the list's end", row{}, 3 << 30, api.ErrReplay},
		{"behind it, unlike", row{}, 3<<30 | 1, api.OK},
	} {
		// Whatever the entry is: another one's, or the echo itself.
		for at := range 3 {
			w, e := granted(deep(ready()), 1, 2, 1)
			w.Draws = api.Draws{List: x.list}
			w.Box.Sealed[0].Handle = 33
			w.Box.Sealed[at].Handle = x.handle
			e.m.Box = w.Box.Sealed[2].Handle
			got, errno := check(t, w, e)
			if errno != x.want || errno != api.OK && (got.Draws.Next != 0 || len(got.Box.Sealed) != 3 || len(got.Log) != 2 || got.People[1].Runs[0].State != api.Running) {
				t.Errorf("%s: %d, want %d: %+v", x.name, errno, x.want, got)
			}
		}
	}
}

// P15.1: draws wherever Next is: ahead of the list's end, behind it, and near the last Next that a world may have.
func TestDraws(t *testing.T) {
	var nexts []int
	for i := range 15 {
		nexts = append(nexts, i, 1<<20-i)
	}
	for _, next := range nexts {
		w := deep(ready())
		w.Draws.Next = next
		at := nth(w.Draws.List, next)
		v := expect(t, w, start(1, 2), api.OK)
		if v.Draws.Next != next+1 || last(v).N != at || v.People[1].Runs[0].Mine != at {
			t.Error(next, v.Draws.Next, last(v))
		}
		one, g := asked(w, 1, 2, 1)
		if v = expect(t, one, g, api.OK); v.Draws.Next != next {
			t.Error(next, v.Draws.Next)
		}
		two, e := granted(w, 1, 2, 1)
		if v = expect(t, two, e, api.OK); v.Draws.Next != next+1 || v.Box.Sealed[3].Handle != at {
			t.Error(next, v.Draws.Next, v.Box.Sealed[3])
		}
		two.Box.Sealed[0].Handle = at
		expect(t, two, e, api.ErrReplay)
	}
}

// P15.1: a principal that is corrupt, or whose key is like another one's, or 0, begins, and takes what comes, as any other.
func TestPrincipalsAsTheyAre(t *testing.T) {
	for _, keys := range [][2]uint32{{0, 0}, {5, 5}, {0, 1 << 31}, {math.MaxUint32, 7}, {1<<31 | 24, 1<<31 | 25}, {9001, 9001}} {
		for _, corrupt := range []bool{false, true} {
			w := ready()
			w.People[0].Corrupt, w.People[1].Corrupt, w.People[2].Corrupt = corrupt, corrupt, !corrupt
			w.People[1].Key, w.People[2].Key = keys[0], keys[1]
			expect(t, w, start(1, 2), api.OK)
			one, g := asked(w, 1, 2, 1)
			expect(t, one, g, api.OK)
			two, e := granted(w, 1, 2, 1)
			v := expect(t, two, e, api.OK)
			if v.Box.Sealed[3].Key != 9001 {
				t.Error(keys, v.Box.Sealed[3])
			}
			// A run's key that is 0, or a long-term one, is a key.
			two.People[1].Runs[0].K, two.Box.Sealed[2].Key = keys[0], keys[0]
			expect(t, two, e, api.OK)
		}
	}
}

// P15.1: whatever else a world has: all is as the chapter's words say, in worlds that are put together by chance.
func TestByChance(t *testing.T) {
	r := rand.New(rand.NewSource(15))
	told := map[string]int{}
	for range 60000 {
		w, c := chance(r)
		_, errno := check(t, w, c)
		told[fmt.Sprint(c.what, errno)]++
	}
	for _, one := range []string{"Start0", "Start5", "Start10", "Grant0", "Grant6", "Grant9", "Grant7", "Grant10", "Echo0", "Echo6", "Echo7", "Echo10", "Echo8"} {
		if told[one] < 30 {
			t.Error(one, told)
		}
	}
	if len(told) != 13 {
		t.Error(told)
	}
}

// chance puts a world together that has its form, and a call.
func chance(r *rand.Rand) (api.World, call) {
	c := api.Conf{Window: uint32(r.Intn(5)), People: 1 + r.Intn(6), Box: r.Intn(9), Used: r.Intn(3), Runs: r.Intn(7), Net: r.Intn(6), Regs: 1 + r.Intn(3)}
	w := api.World{Conf: c, Box: api.Box{Room: c.Box}, Net: api.Net{Room: c.Net}, Regs: make([]row, c.Regs)}
	for range r.Intn(12) {
		w.Draws.List = append(w.Draws.List, uint32(r.Intn(12)))
	}
	w.Draws.Next = r.Intn(9)
	for i := range r.Intn(c.Net + 1) {
		w.Net.Grams = append(w.Net.Grams, api.Gram{To: uint32(r.Intn(9)), Words: words(r.Intn(20), i)})
	}
	for i := range r.Intn(6) {
		w.Net.Seen = append(w.Net.Seen, words(r.Intn(20), i))
		w.Log = append(w.Log, event(r.Intn(9)))
	}
	for name := range c.People + 1 {
		p := someone(uint32(name), r.Intn(3), r.Intn(c.Used+1), 0)
		p.Clock = uint32(r.Intn(5))
		for range r.Intn(c.Runs + 1) {
			p.Runs = append(p.Runs, anyRun(r))
		}
		if r.Intn(9) == 0 {
			p.Clock = 1 << 30
		}
		w.People = append(w.People, p)
	}
	me := uint32(1 + r.Intn(c.People))
	for i, handle := range r.Perm(12)[:r.Intn(c.Box+1)] {
		w.Box.Sealed = append(w.Box.Sealed, anyEntry(r, w.People[me], 1<<31|uint32(handle), i))
	}
	if r.Intn(4) == 0 {
		return w, start(uint32(r.Intn(c.People+2)), uint32(r.Intn(c.People+2)))
	}
	if len(w.Box.Sealed) == 0 || r.Intn(9) == 0 {
		box := uint32(r.Intn(12)) | 1<<31
		return w, []call{grant(me, box), echo(me, box)}[r.Intn(2)]
	}
	s := w.Box.Sealed[r.Intn(len(w.Box.Sealed))]
	if s.Label == api.LabelGrant {
		return w, grant(me, s.Handle)
	}
	return w, echo(me, s.Handle)
}

// anyRun answers a run that may be, most often one with times, of few words.
func anyRun(r *rand.Rand) api.Run {
	one := api.Run{Proto: 1, Role: 1, Peer: uint32(1 + r.Intn(2)), Mine: uint32(r.Intn(2)), Their: uint32(r.Intn(3)), M: uint32(r.Intn(3)), K: uint32(r.Intn(3)), T: uint32(r.Intn(5)), State: 1 + r.Intn(3)}
	if r.Intn(9) == 0 {
		one.Proto = 2
	}
	if r.Intn(9) == 0 {
		one.Role = 2
	}
	return one
}

// anyEntry answers an entry, most often a grant for somebody, or an echo.
func anyEntry(r *rand.Rand, me api.Person, handle uint32, number int) api.Sealed {
	switch r.Intn(5) {
	case 0:
		return api.Sealed{Handle: handle, Key: uint32(r.Intn(9)), Label: uint32(r.Intn(12)), Plain: words(r.Intn(6), number)}
	case 1, 2:
		return api.Sealed{Handle: handle, Key: me.Key, Label: 2, Plain: row{uint32(r.Intn(2)), uint32(1 + r.Intn(2)), uint32(r.Intn(3)), uint32(r.Intn(5)), uint32(r.Intn(30))}}
	}
	return api.Sealed{Handle: handle, Key: uint32(r.Intn(3)), Label: 4, Plain: row{uint32(r.Intn(9))}}
}

// P15.2: whatever comes, and however often: a run commits once at most, to the key and the time that its grant had; and commits are events.
func TestCommitsOnce(t *testing.T) {
	r := rand.New(rand.NewSource(16))
	commits := 0
	for range 60 {
		w := fresh()
		w.Draws.List = nil
		w.Conf.Box, w.Box.Room, w.Conf.Net, w.Net.Room, w.Conf.Runs = 64, 64, 64, 64, 12
		grants := map[uint32]api.Event{}
		done := map[uint32]int{}
		for number := range uint32(300) {
			w = goOn(r, w, number)
			was := w
			v, errno := check(t, w, someCall(r, w))
			w = v
			if errno != api.OK {
				continue
			}
			checkStates(t, was, w)
			switch e := last(w); e.Kind {
			case api.EvRun:
				if _, ok := grants[e.N]; ok {
					t.Fatal("granted twice", e)
				}
				grants[e.N] = e
			case api.EvCommit:
				commits++
				mine := committer(t, was, w)
				if done[mine]++; done[mine] > 1 {
					t.Fatal("committed twice", e)
				}
				if g, ok := grants[mine]; !ok || g.K != e.K || g.T != e.T || g.A != e.A || g.B != e.B {
					t.Fatal("another key, another time", e, g)
				}
			}
		}
	}
	if commits < 500 {
		t.Error(commits)
	}
}

// goOn has time go by, frames be taken away, and grants and echoes be sealed, right ones and others.
func goOn(r *rand.Rand, w api.World, number uint32) api.World {
	w = deep(w)
	me := &w.People[1+r.Intn(3)]
	me.Clock = min(me.Clock+uint32(r.Intn(2)*r.Intn(2)*r.Intn(2)), 1<<30)
	w.Net.Grams = w.Net.Grams[:min(len(w.Net.Grams), 60)]
	w.Box.Sealed = w.Box.Sealed[max(0, len(w.Box.Sealed)-40):]
	if len(me.Runs) == 0 {
		return w
	}
	// Keys are few, so that an echo is now and then for several runs.
	one := me.Runs[r.Intn(len(me.Runs))]
	if r.Intn(2) == 0 {
		return sealed(w, 5000+number, me.Key, api.LabelGrant, one.Mine, one.Peer, 9000+uint32(r.Intn(20)), me.Clock, 6000+number)
	}
	return sealed(w, 5000+number, one.K, api.LabelEcho, 8000+number)
}

// someCall answers a call, most often of an entry that was sealed of late.
func someCall(r *rand.Rand, w api.World) call {
	me := uint32(1 + r.Intn(3))
	if len(w.Box.Sealed) == 0 || r.Intn(6) == 0 {
		return start(me, uint32(1+r.Intn(3)))
	}
	s := w.Box.Sealed[max(0, len(w.Box.Sealed)-1-r.Intn(6))]
	for _, p := range w.People[1:] {
		if s.Key == p.Key || slices.ContainsFunc(p.Runs, func(r api.Run) bool { return s.Key == r.K }) {
			me = p.Name
		}
	}
	if s.Label == api.LabelGrant {
		return grant(me, s.Handle)
	}
	return echo(me, s.Handle)
}

// checkStates tells that each run is as it was, or has gone on by one state, of which only the last has an event of its own; and that none ever leaves its row, nor loses what it had when it was granted.
func checkStates(t *testing.T, was, now api.World) {
	t.Helper()
	for i, p := range was.People {
		for j, old := range p.Runs {
			r := now.People[i].Runs[j]
			same := r.Proto == old.Proto && r.Role == old.Role && r.Peer == old.Peer && r.Mine == old.Mine && r.M == old.M
			granted := old.State == api.Waiting || r.K == old.K && r.T == old.T
			if !same || !granted || r.State < old.State || r.State > old.State+1 || old.State == api.Done && r != old {
				t.Fatal(old, r)
			}
		}
	}
}

// committer answers the nonce of the one run that is Done now, and wasn't.
func committer(t *testing.T, was, now api.World) uint32 {
	t.Helper()
	var l row
	for i, p := range was.People {
		for j, old := range p.Runs {
			if old.State != api.Done && now.People[i].Runs[j].State == api.Done {
				l = append(l, old.Mine)
			}
		}
	}
	if len(l) != 1 {
		t.Fatal(l)
	}
	return l[0]
}

// calls are calls of which in most places one or another is done, and the others aren't, for each reason.
func calls() []call {
	return []call{
		start(1, 2), start(2, 3), start(2, 2), start(0, 1), start(1, 9),
		grant(1, 5001), grant(2, 5001), grant(1, 5002), grant(1, 5003), grant(1, 9), grant(1, 5009),
		echo(2, 5002), echo(1, 5002), echo(2, 5001), echo(2, 9), echo(2, 5009),
	}
}

// several answers worlds in which 1 waits for a grant, and 2 for an echo, both of which have come.
func several() []api.World {
	great := greatest()
	great.Box.Sealed, great.Net.Grams = great.Box.Sealed[:58], great.Net.Grams[:60]
	for p := range great.People {
		great.People[p].Runs = great.People[p].Runs[:60]
	}
	l := []api.World{fresh(), ready(), great}
	for i, w := range l {
		w, _ = asked(w, 1, 2, 1)
		w, _ = granted(w, 2, 3, 2)
		// A grant of another nonce, for 1; a stale one; an echo for nobody.
		w = sealed(w, 5003, w.People[1].Key, api.LabelGrant, 7009, 2, 70, w.People[1].Clock, 60)
		l[i] = sealed(w, 5009, w.People[1].Key, api.LabelGrant, 7001, 2, 70, 1<<30, 60)
	}
	return l
}

// places answers worlds in which something is done, and such in which nothing is, for each reason.
func places() []api.World {
	one, _ := asked(least(), 1, 2, 1)
	two, _ := granted(least(), 2, 1, 2)
	l := append(several(), one, two, least())
	for _, f := range []func(w *api.World){
		func(w *api.World) { w.Conf.Net, w.Net.Room = 3, 3 },
		func(w *api.World) { w.Conf.Box, w.Box.Room = len(w.Box.Sealed), len(w.Box.Sealed) },
		func(w *api.World) { w.Conf.Runs = 4 },
		func(w *api.World) { w.People[1].Clock, w.People[2].Clock = 1<<30, 1<<30 },
		func(w *api.World) { w.Box.Sealed[0].Handle = nth(w.Draws.List, w.Draws.Next) },
	} {
		w := deep(several()[1])
		f(&w)
		l = append(l, w)
	}
	return l
}

// P15.3: its tests hang on places in which each answer comes.
func TestPlaces(t *testing.T) {
	told := map[string]int{}
	for _, w := range places() {
		for _, c := range calls() {
			if !c.may(w) {
				continue
			}
			_, errno := check(t, w, c)
			told[fmt.Sprint(c.what, errno)]++
		}
	}
	if len(told) != 13 {
		t.Error(told)
	}
}

// fillNew fills the lists of an answer that didn't stay as they were in w: those that have more than they had, and what they have anew.
func fillNew(v, w api.World, c call) {
	if len(v.Log) == len(w.Log) {
		return
	}
	if len(v.Box.Sealed) > len(w.Box.Sealed) {
		fill(v.Box.Sealed[len(w.Box.Sealed)].Plain, 6)
		fill(v.Box.Sealed, api.Sealed{Handle: 6})
	}
	for _, g := range v.Net.Grams[len(w.Net.Grams):] {
		fill(g.Words, 6)
	}
	for _, l := range v.Net.Seen[len(w.Net.Seen):] {
		fill(l, 6)
	}
	fill(v.People[c.a].Runs, run(6))
	fill(v.Net.Grams, api.Gram{To: 6})
	fill(v.Net.Seen, row{6})
	fill(v.People, api.Person{Name: 66})
	fill(v.Log, event(6))
}

// P15.3: no call changes a world, nor what stands ahead of its lists and in the room behind them; a write into what an answer has anew is seen neither in the world nor in another answer.
func TestHandedInStays(t *testing.T) {
	for i, world := range places() {
		for _, c := range calls() {
			name := fmt.Sprint(i, c)
			w, h := roomy(world)
			one, _ := c.do(w)
			want := deep(one)
			two, _ := c.do(w)
			if !h.isAsItWas() || !sameWorld(w, world) {
				t.Fatal(name, "changes what is handed in")
			}
			fillNew(one, w, c)
			if !h.isAsItWas() || !sameWorld(w, world) {
				t.Fatal(name, "a write into an answer is seen in what was handed in")
			}
			if !sameWorld(two, want) {
				t.Fatal(name, "a write into one answer is seen in another one")
			}
			fillNew(two, w, c)
			if three, _ := c.do(w); !sameWorld(three, want) {
				t.Fatal(name, "a write into one answer is seen in a later one")
			}
		}
	}
}

// P15.3: answers of one world go on apart: what is done in one isn't done in another.
func TestAnswersGoOnApart(t *testing.T) {
	first := []call{start(1, 2), start(2, 3), grant(1, 5001), echo(2, 5002)}
	for i, world := range several() {
		for _, c := range first {
			for _, d := range first {
				w, _ := roomy(world)
				one, errno := c.do(w)
				two, errno2 := d.do(w)
				if errno != api.OK || errno2 != api.OK {
					t.Fatal(i, c, d, errno, errno2)
				}
				want, wantTwo := deep(one), deep(two)
				for _, e := range calls() {
					three, _ := e.do(one)
					four, _ := e.do(two)
					fillNew(three, one, e)
					fillNew(four, two, e)
					if !sameWorld(w, world) || !sameWorld(one, want) || !sameWorld(two, wantTwo) {
						t.Fatal(i, c, d, e)
					}
				}
				fillNew(one, w, c)
				if !sameWorld(w, world) || !sameWorld(two, wantTwo) {
					t.Fatal(i, c, d, "a later change of one answer")
				}
			}
		}
	}
}

// P15.3: what an answer has anew doesn't change when what was handed in does.
func TestLaterChangeOfTheWorld(t *testing.T) {
	for room := range 4 {
		for what := range faults {
			w, c := tried(what)
			// Once there is no room behind the lists, then there is.
			w.Box.Sealed, w.Net.Grams, w.Net.Seen = with(w.Box.Sealed, room), with(w.Net.Grams, room), with(w.Net.Seen, room)
			w.Log, w.People, w.People[2].Runs = with(w.Log, room), with(w.People, room), with(w.People[2].Runs, room)
			want, wantErrno := c.retold(w)
			got, errno := c.do(w)
			if what == "Echo" {
				// The others leave the box as it is, and may share it.
				fill(w.Box.Sealed, api.Sealed{Handle: 6})
			}
			fill(w.People[2].Runs, run(6))
			fill(w.Net.Grams, api.Gram{To: 6})
			fill(w.Net.Seen, row{6})
			fill(w.Log, event(6))
			fill(w.People, api.Person{Name: 66})
			if errno != api.OK || errno != wantErrno || !sameWorld(got, want) {
				t.Errorf("%s, %d: %d: %+v, want %+v", what, room, errno, got, want)
			}
		}
	}
}

// with answers a copy of a list that has so much room behind it.
func with[T any](l []T, room int) []T {
	m := make([]T, len(l), len(l)+room)
	copy(m, l)
	return m
}

// Rule 8: what is answered hangs on what is handed in now, and on no call ahead of it.
func TestNothingIsKept(t *testing.T) {
	for _, c := range calls() {
		want, wantErrno := c.do(several()[1])
		want = deep(want)
		for _, w := range places() {
			for _, d := range calls() {
				d.do(w)
			}
		}
		if got, errno := c.do(several()[1]); errno != wantErrno || !sameWorld(got, want) {
			t.Fatal(c, errno, got, want)
		}
	}
}

// Rule 5: nil and empty lists are one.
func TestNilAndEmpty(t *testing.T) {
	w, v := fresh(), fresh()
	w.Box.Sealed, w.Net.Grams, w.Net.Seen, w.Log, w.Leaks = nil, nil, nil, nil, nil
	v.Box.Sealed, v.Net.Grams, v.Net.Seen, v.Log, v.Leaks = []api.Sealed{}, []api.Gram{}, []row{}, []api.Event{}, []api.Leak{}
	for p := range w.People {
		w.People[p].Used, w.People[p].Runs = nil, nil
		v.People[p].Used, v.People[p].Runs = row{}, []api.Run{}
	}
	for _, c := range []call{start(1, 2), grant(1, 5001), echo(1, 5001)} {
		a, errno := check(t, w, c)
		if b := expect(t, v, c, errno); !sameWorld(a, b) {
			t.Error(a, b)
		}
	}
	one, g := asked(w, 1, 2, 1)
	two, e := granted(v, 1, 2, 1)
	expect(t, one, g, api.OK)
	expect(t, two, e, api.OK)
}

// P1 of all layers: calls end, and don't panic, at worlds, names and messages too of which nothing is promised.
func TestEveryCallEnds(t *testing.T) {
	l := append(places(), api.World{}, api.World{People: []api.Person{{Name: 1}, {Name: 2}}, Conf: api.Conf{Runs: 1}, Box: api.Box{Room: 9}, Net: api.Net{Room: 9}})
	for _, n := range []int{math.MinInt, -3, -1, 0, 1, 65, math.MaxInt - 3, math.MaxInt} {
		w := several()[1]
		w.Conf = api.Conf{Window: math.MaxUint32, People: n, Box: n, Used: n, Runs: n, Net: n, Regs: n}
		w.Box.Room, w.Net.Room, w.Draws.Next = n, n, n
		v := deep(several()[1])
		v.Draws.Next, v.People[1].Clock, v.People[2].Clock = n, math.MaxUint32, math.MaxUint32
		u := several()[1]
		u.Draws.Next = n
		// Runs that may not be, beside some that wait.
		s := hold(hold(several()[1], 1, api.Run{}), 2, api.Run{Proto: n, Role: n, State: n})
		l = append(l, w, v, u, s)
	}
	for _, w := range l {
		for _, a := range edges {
			for _, b := range append(slices.Clone(edges), 5001, 5002, 5003) {
				nsa.Start(w, a, b)
				for kind := range uint32(11) {
					m := api.Msg{Kind: kind, Run: a, A: a, B: b, Nonce: a, Box: b, More: a}
					nsa.Grant(w, a, m)
					nsa.Echo(w, a, m)
				}
			}
		}
	}
}
