package ksn_test

import (
	"fmt"
	"math"
	"math/rand"
	"reflect"
	"slices"
	"testing"

	"chamberlain/api"
	"chamberlain/desk"
	"chamberlain/ksn"
	"chamberlain/msg"
	"chamberlain/people"
)

type row = []uint32

// edges are words that are easily taken for each other, or for nothing.
var edges = row{0, 1, 2, 3, 7, 255, 256, math.MaxInt32, 1 << 30, 1 << 31, 1<<31 | 99, 3 << 30, math.MaxUint32 - 1, math.MaxUint32}

// sameWorld and what it asks tell whether two are like each other in all that they have; nil and empty lists are one.
func sameWorld(a, b api.World) bool {
	return a.Conf == b.Conf && a.Draws.Next == b.Draws.Next && slices.Equal(a.Draws.List, b.Draws.List) &&
		a.Box.Room == b.Box.Room && slices.EqualFunc(a.Box.Sealed, b.Box.Sealed, sameEntry) &&
		a.Net.Room == b.Net.Room && slices.EqualFunc(a.Net.Grams, b.Net.Grams, sameGram) && sameRows(a.Net.Seen, b.Net.Seen) &&
		slices.EqualFunc(a.People, b.People, samePerson) && slices.Equal(a.Log, b.Log) && sameRows(a.Regs, b.Regs) && slices.Equal(a.Leaks, b.Leaks)
}

func sameEntry(a, b api.Sealed) bool {
	return a.Handle == b.Handle && a.Key == b.Key && a.Label == b.Label && slices.Equal(a.Plain, b.Plain)
}

func sameGram(a, b api.Gram) bool {
	return a.To == b.To && slices.Equal(a.Words, b.Words)
}

func sameRows(a, b []row) bool {
	return slices.EqualFunc(a, b, slices.Equal[row])
}

func samePerson(a, b api.Person) bool {
	return a.Name == b.Name && a.Key == b.Key && a.Clock == b.Clock && a.Corrupt == b.Corrupt && slices.Equal(a.Used, b.Used) && slices.Equal(a.Runs, b.Runs)
}

// words answers so many words, unlike those of another number.
func words(count, number int) row {
	var l row
	for i := range count {
		l = append(l, uint32(1000*number+i+1))
	}
	return l
}

// run answers a run that may be, like no other one of another number.
func run(number int) api.Run {
	n := uint32(number)
	return api.Run{Proto: 1 + number%2, Role: 1 + number/2%2, Peer: n + 1, Mine: n + 2, Their: n + 3, M: n + 4, K: n + 5, T: n + 6, State: 1 + number%3}
}

// someone answers a person with so many used words and runs.
func someone(name uint32, number, used, many int) api.Person {
	p := api.Person{Name: name, Key: uint32(number + 5), Clock: uint32(number + 6), Used: words(used, number), Corrupt: number%2 == 1}
	for i := range many {
		p.Runs = append(p.Runs, run(number+i))
	}
	return p
}

// event answers an event that is like no other one of another number in anything.
func event(number int) api.Event {
	n := uint32(number)
	return api.Event{Kind: number, Proto: number + 1, Role: number + 2, A: n + 3, B: n + 4, K: n + 5, T: n + 6, M: n + 7, N: n + 8, Clock: n + 9}
}

// fresh answers a new world of three principals, in whose lists stands nothing; its next draws are 2^31 + 4, 5, 6 and so on.
func fresh() api.World {
	list := row{1, 2, 3, 4, 5, 6, 7, 8, 9, 10, 11, 12, 13, 14, 15}
	l, d, _ := people.New(3, api.Draws{List: list})
	return api.World{
		Conf:  api.Conf{Window: 5, People: 3, Box: 8, Used: 4, Runs: 2, Net: 4, Regs: 1},
		Draws: d, Box: api.Box{Room: 8}, Net: api.Net{Room: 4}, People: l, Regs: []row{nil},
	}
}

// ready answers a world that has its form, something in each of its lists, and room for more of everything.
func ready() api.World {
	return api.World{
		Conf:  api.Conf{Window: 9, People: 3, Box: 7, Used: 5, Runs: 4, Net: 6, Regs: 2},
		Draws: api.Draws{List: row{21, 22, 23, 24, 1<<31 | 25, 26, 27, 28, 29, 30}, Next: 3},
		Box:   api.Box{Room: 7, Sealed: []api.Sealed{{Handle: 31, Key: 41, Label: 3, Plain: words(3, 51)}, {Handle: 32, Key: 42, Label: 99, Plain: row{}}}},
		Net: api.Net{Room: 6, Grams: []api.Gram{{To: 1, Words: words(2, 61)}, {To: 200, Words: nil}, {To: 0, Words: words(7, 62)}},
			Seen: []row{words(2, 61), words(7, 62), {}, words(3, 63)}},
		People: []api.Person{someone(0, 70, 2, 1), someone(1, 71, 0, 0), someone(2, 74, 1, 3), someone(3, 77, 2, 2)},
		Log:    []api.Event{event(80), event(81)},
		Regs:   []row{words(4, 90), {}},
		Leaks:  []api.Leak{{K: 95, At: 1}, {K: 96, At: 2}},
	}
}

// greatest answers a world whose every limit is reached, but that there is room for just one grant.
func greatest() api.World {
	w := api.World{
		Conf:  api.Conf{Window: 1 << 20, People: 6, Box: 64, Used: 64, Runs: 64, Net: 64, Regs: 8},
		Draws: api.Draws{Next: 1<<20 - 3},
		Box:   api.Box{Room: 64},
		Net:   api.Net{Room: 64},
	}
	for i := range 62 {
		w.Box.Sealed = append(w.Box.Sealed, api.Sealed{Handle: uint32(i), Plain: words(64, i)})
	}
	for i := range 63 {
		w.Net.Grams = append(w.Net.Grams, api.Gram{To: uint32(i), Words: words(64, i)})
	}
	for i := range 300 {
		w.Net.Seen = append(w.Net.Seen, words(64, i))
	}
	for i := range 7 {
		w.People = append(w.People, someone(uint32(i), i, 64, 64))
		w.People[i].Clock = 1 << 30
	}
	w.People[0].Clock = 1<<30 - 1
	w.People[0].Used = words(63, 0)
	for i := range 8 {
		w.Regs = append(w.Regs, words(64, i))
	}
	return w
}

// least answers a world that has no more than it must so that one grant can be.
func least() api.World {
	return api.World{
		Conf: api.Conf{People: 2, Box: 2, Used: 1, Net: 1, Regs: 1},
		Box:  api.Box{Room: 2}, Net: api.Net{Room: 1},
		People: []api.Person{{}, {Name: 1}, {Name: 2}}, Regs: []row{nil},
	}
}

// worlds answers worlds that have their form, in which there is room for a grant.
func worlds() []api.World {
	return []api.World{fresh(), ready(), greatest(), least()}
}

// ask answers NS1.
func ask(a, b, nonce uint32) api.Msg {
	return api.Msg{Kind: api.NS1, A: a, B: b, Nonce: nonce}
}

// hall is memory in which lists stand, with something ahead of each and behind it.
type hall struct {
	stays []func() bool
}

// in answers a list like the one handed in, which stands in a hall.
func in[T any](h *hall, l []T, odd T) []T {
	whole := slices.Concat([]T{odd}, l, []T{odd, odd, odd})
	was := slices.Clone(whole)
	// Lists that the list has stand in the hall themselves.
	h.stays = append(h.stays, func() bool { return reflect.DeepEqual(whole, was) })
	return whole[1 : 1+len(l)]
}

// each answers a list of lists, all of which stand in a hall, and so does the list.
func each(h *hall, l []row) []row {
	var m []row
	for _, one := range l {
		m = append(m, in(h, one, 7))
	}
	return in(h, m, row{8})
}

// roomy answers a world like the one handed in, which shares nothing with it, and all of whose lists stand in a hall.
func roomy(w api.World) (api.World, *hall) {
	h := &hall{}
	var sealed []api.Sealed
	for _, s := range w.Box.Sealed {
		s.Plain = in(h, s.Plain, 7)
		sealed = append(sealed, s)
	}
	var grams []api.Gram
	for _, g := range w.Net.Grams {
		g.Words = in(h, g.Words, 7)
		grams = append(grams, g)
	}
	var folk []api.Person
	for _, p := range w.People {
		p.Used, p.Runs = in(h, p.Used, 7), in(h, p.Runs, run(8))
		folk = append(folk, p)
	}
	w.Draws.List = in(h, w.Draws.List, 7)
	w.Box.Sealed = in(h, sealed, api.Sealed{Handle: 8})
	w.Net.Grams, w.Net.Seen = in(h, grams, api.Gram{To: 8}), each(h, w.Net.Seen)
	w.People = in(h, folk, api.Person{Name: 8})
	w.Log, w.Leaks = in(h, w.Log, event(8)), in(h, w.Leaks, api.Leak{K: 8})
	w.Regs = each(h, w.Regs)
	return w, h
}

// deep answers a copy of a world that shares nothing with it.
func deep(w api.World) api.World {
	v, _ := roomy(w)
	return v
}

// isAsItWas asks whether nothing in a hall was written into.
func (h *hall) isAsItWas() bool {
	return !slices.ContainsFunc(h.stays, func(stays func() bool) bool { return !stays() })
}

// fill fills a list, and the room behind its length, with something else.
func fill[T any](l []T, odd T) {
	for i := range l[:cap(l)] {
		l[:cap(l)][i] = odd
	}
}

// nth tells chapter 4's words anew: the i-th draw of a list.
func nth(list row, i int) uint32 {
	if i >= len(list) {
		return 3221225472 | uint32(i)
	}
	return list[i] | 2147483648
}

// refused tells the chapter's words anew: the error of a world, if it grants nothing.
func refused(w api.World, m api.Msg) api.Errno {
	last := uint32(len(w.People) - 1)
	switch {
	case m.A == 0 || m.B == 0 || m.A > last || m.B > last || m.A == m.B:
		return 5
	case w.People[0].Clock >= 1073741824:
		return 7
	case slices.Contains(w.People[0].Used, m.Nonce):
		return 8
	case len(w.People[0].Used) == w.Conf.Used:
		return 10
	case len(w.Box.Sealed)+2 > w.Box.Room || len(w.Net.Grams)+1 > w.Net.Room:
		return 10
	}
	return 0
}

// granted tells the chapter's words anew; it answers in new memory.
func granted(w api.World, m api.Msg) (api.World, api.Errno) {
	v := deep(w)
	if errno := refused(w, m); errno != 0 {
		return v, errno
	}
	k, ticket, grant := nth(w.Draws.List, w.Draws.Next), nth(w.Draws.List, w.Draws.Next+1), nth(w.Draws.List, w.Draws.Next+2)
	for _, s := range w.Box.Sealed {
		if s.Handle == ticket || s.Handle == grant {
			return v, 8
		}
	}
	if ticket == grant {
		return v, 8
	}
	t := w.People[0].Clock
	v.Draws.Next += 3
	v.Box.Sealed = append(v.Box.Sealed,
		api.Sealed{Handle: ticket, Key: w.People[m.B].Key, Label: 3, Plain: row{k, m.A, t}},
		api.Sealed{Handle: grant, Key: w.People[m.A].Key, Label: 2, Plain: row{m.Nonce, m.B, k, t, ticket}})
	v.People[0].Used = append(v.People[0].Used, m.Nonce)
	v.Log = append(v.Log, api.Event{Kind: 2, Proto: 1, Role: 0, A: m.A, B: m.B, K: k, T: t, M: 0, N: m.Nonce, Clock: t})
	v.Net.Grams = append(v.Net.Grams, api.Gram{To: m.A, Words: row{1, 1, 2, 6, 1, grant}})
	v.Net.Seen = append(v.Net.Seen, row{1, 1, 2, 6, 1, grant})
	return v, 0
}

// check holds Grant against the chapter's words, and answers what it did.
func check(t *testing.T, w api.World, m api.Msg) (api.World, api.Errno) {
	t.Helper()
	if !desk.Form(w) || !msg.May(m) {
		t.Fatalf("nothing is promised of %+v, %+v", w, m)
	}
	want, wantErrno := granted(w, m)
	got, errno := ksn.Grant(w, m)
	if errno != wantErrno || !sameWorld(got, want) {
		t.Fatalf("Grant(%+v) = %d, want %d: %+v, want %+v", m, errno, wantErrno, got, want)
	}
	if fits := got.Draws.Next <= 1<<20; desk.Form(got) != fits {
		t.Fatalf("Grant(%+v): its form", m)
	}
	return got, errno
}

// expect is check, where it is known what is to be told; it tells, too, that w comes back beside an error.
func expect(t *testing.T, w api.World, m api.Msg, want api.Errno) api.World {
	t.Helper()
	got, errno := check(t, w, m)
	if errno != want {
		t.Fatalf("Grant(%+v) = %d, want %d", m, errno, want)
	}
	if errno != api.OK && !sameWorld(got, w) {
		t.Fatalf("Grant(%+v) = %d, and another world", m, errno)
	}
	return got
}

// P13.1: one grant of a new world, written out.
func TestGrantWrittenOut(t *testing.T) {
	w := fresh()
	w.People[0].Clock, w.People[1].Clock, w.People[3].Clock = 7, 8, 9
	got, errno := ksn.Grant(w, ask(1, 3, 99))
	const key, ticket, grant = 1<<31 + 4, 1<<31 + 5, 1<<31 + 6
	want := fresh()
	want.People[0].Clock, want.People[1].Clock, want.People[3].Clock = 7, 8, 9
	want.Draws.Next = 6
	want.Box.Sealed = []api.Sealed{
		{Handle: ticket, Key: 1<<31 + 3, Label: api.LabelTicket, Plain: row{key, 1, 7}},
		{Handle: grant, Key: 1<<31 + 1, Label: api.LabelGrant, Plain: row{99, 3, key, 7, ticket}},
	}
	want.People[0].Used = row{99}
	want.Log = []api.Event{{Kind: api.EvIssue, Proto: api.ProtoNS, A: 1, B: 3, K: key, T: 7, N: 99, Clock: 7}}
	want.Net.Grams = []api.Gram{{To: 1, Words: row{1, 1, 2, 6, 1, grant}}}
	want.Net.Seen = []row{{1, 1, 2, 6, 1, grant}}
	if errno != api.OK || !sameWorld(got, want) {
		t.Fatalf("%d: %+v, want %+v", errno, got, want)
	}
	expect(t, w, ask(1, 3, 99), api.OK)
}

// P13.1: the chapter's example: the same NS1 twice.
func TestSameTwice(t *testing.T) {
	for i, w := range worlds() {
		v := expect(t, w, ask(1, 2, 1<<31+99), api.OK)
		// There is room for another one, so that nothing but the nonce stands in the way.
		v.Conf.Box, v.Box.Room, v.Conf.Net, v.Net.Room, v.Conf.Used = 64, 64, 64, 64, 64
		v.Box.Sealed, v.Net.Grams = v.Box.Sealed[:min(len(v.Box.Sealed), 62)], v.Net.Grams[:min(len(v.Net.Grams), 63)]
		if v.Draws.Next > 1<<20-3 {
			v.Draws.Next = 9
		}
		if _, errno := check(t, v, ask(1, 2, 1<<31+99)); errno != api.ErrReplay {
			t.Error(i, errno)
		}
	}
}

// P13.1: what is granted opens with the keys and the labels of those for whom it is, and with none else; it says just what the chapter names.
func TestWhoOpens(t *testing.T) {
	for i, w := range worlds()[:2] {
		for a := uint32(1); a <= 3; a++ {
			for b := uint32(1); b <= 3; b++ {
				if a == b {
					continue
				}
				v := expect(t, w, ask(a, b, 123), api.OK)
				m, errno := msg.Get(v.Net.Grams[len(w.Net.Grams)].Words)
				if errno != api.OK || m != (api.Msg{Kind: api.NS2, Box: m.Box}) || v.Net.Grams[len(w.Net.Grams)].To != a {
					t.Fatal(i, a, b, m, errno)
				}
				key, now := v.Log[len(w.Log)].K, w.People[0].Clock
				p, ok := desk.Open(v, w.People[a].Key, api.LabelGrant, m.Box)
				if !ok || p != (api.Part{N: 123, B: b, K: key, T: now, H: p.H}) {
					t.Fatal(i, a, b, p, ok)
				}
				q, ok := desk.Open(v, w.People[b].Key, api.LabelTicket, p.H)
				if !ok || q != (api.Part{K: key, A: a, T: now}) || p.H == m.Box || key == m.Box || key == p.H {
					t.Fatal(i, a, b, q, ok)
				}
				checkNobodyElse(t, v, a, b, m.Box, p.H)
			}
		}
	}
}

// checkNobodyElse tells that a grant opens only by a's key, a ticket only by b's, each with its own label.
func checkNobodyElse(t *testing.T, w api.World, a, b, grant, ticket uint32) {
	t.Helper()
	for _, p := range w.People {
		for label := range uint32(12) {
			if _, ok := desk.Open(w, p.Key, label, grant); ok != (p.Name == a && label == 2) {
				t.Fatal(p.Name, label, "grant", ok)
			}
			if _, ok := desk.Open(w, p.Key, label, ticket); ok != (p.Name == b && label == 3) {
				t.Fatal(p.Name, label, "ticket", ok)
			}
		}
	}
}

// P13.1: several grants, one behind the other, of unlike nonces and pairs, either way round, as long as there is room.
func TestSeveral(t *testing.T) {
	w := fresh()
	w.Draws.List = append(w.Draws.List, 16, 17, 18, 19, 20)
	for i, m := range []api.Msg{ask(1, 2, 50), ask(2, 1, 51), ask(3, 1, 0), ask(1, 2, math.MaxUint32)} {
		w.People = slices.Clone(w.People)
		w.People[0].Clock = uint32(10 * i)
		w = expect(t, w, m, api.OK)
		if len(w.Log) != i+1 || w.Log[i].K != 1<<31+uint32(4+3*i) || w.Log[i].T != uint32(10*i) || len(w.Net.Grams) != i+1 {
			t.Fatal(i, w.Log, w.Net.Grams)
		}
	}
	if !slices.Equal(w.People[0].Used, row{50, 51, 0, math.MaxUint32}) || w.Draws.Next != 15 || len(w.Box.Sealed) != 8 {
		t.Fatal(w.People[0].Used, w.Draws.Next, w.Box.Sealed)
	}
	expect(t, w, ask(2, 3, 50), api.ErrReplay)
	expect(t, w, ask(2, 3, 52), api.ErrFull)
}

// P13.1: names: one grants to two principals, unlike; the server is none, and nobody else has a name.
func TestNames(t *testing.T) {
	for i, w := range worlds() {
		last := uint32(w.Conf.People)
		tried := append(slices.Clone(edges), 4, 5, 6, 8, last, last+1, 1<<31|1, 1<<31|2, 257, 258, 1<<16|1)
		for _, p := range w.People {
			// A key, a place in a list, and what was used are no names.
			tried = append(tried, p.Key)
		}
		for _, a := range tried {
			for _, b := range tried {
				want := api.ErrName
				if a >= 1 && a <= last && b >= 1 && b <= last && a != b {
					want = api.OK
				}
				if _, errno := check(t, w, ask(a, b, 1<<31+77)); errno != want {
					t.Fatal(i, a, b, errno)
				}
			}
		}
	}
}

// P13.1: a world of one principal has no pair.
func TestOnePrincipal(t *testing.T) {
	w := least()
	w.Conf.People, w.People = 1, w.People[:2]
	for a := range uint32(4) {
		for b := range uint32(4) {
			expect(t, w, ask(a, b, 5), api.ErrName)
		}
	}
}

// P13.1: the server's clock: its time stands in all that is granted; at its end nothing is granted.
func TestServersClock(t *testing.T) {
	for i, w := range worlds() {
		for _, now := range []uint32{0, 1, 2, 5, 1 << 20, 1<<20 + 1, 1 << 29, 1<<30 - 2, 1<<30 - 1, 1 << 30} {
			w.People = slices.Clone(w.People)
			w.People[0].Clock = now
			if now == 1<<30 {
				expect(t, w, ask(2, 1, 1<<31+77), api.ErrStale)
				continue
			}
			v := expect(t, w, ask(2, 1, 1<<31+77), api.OK)
			at := len(v.Box.Sealed) - 2
			if e := v.Log[len(w.Log)]; e.T != now || e.Clock != now || v.Box.Sealed[at].Plain[2] != now || v.Box.Sealed[at+1].Plain[3] != now || v.People[0].Clock != now {
				t.Fatal(i, now, e, v.Box.Sealed[at:])
			}
		}
	}
}

// P13.1: the principals' clocks, and the window, say nothing.
func TestOthersClocks(t *testing.T) {
	for _, now := range []uint32{0, 3, 1<<30 - 1} {
		for _, theirs := range []uint32{0, 1, 2, 1 << 29, 1<<30 - 1, 1 << 30} {
			for _, window := range []uint32{0, 1, 1 << 20} {
				w := ready()
				w.Conf.Window = window
				w.People[0].Clock = now
				for p := 1; p <= 3; p++ {
					w.People[p].Clock = theirs
					v := expect(t, w, ask(1, 2, 5), api.OK)
					if v.Log[2].Clock != now || v.People[p].Clock != theirs {
						t.Fatal(now, theirs, v.Log[2])
					}
				}
				w.People[0].Clock = 1 << 30
				expect(t, w, ask(1, 2, 5), api.ErrStale)
			}
		}
	}
}

// P13.1: nonces: whatever word is granted, 0 too, and isn't granted once more, whoever asks; but what principals used says nothing, nor does it what is drawn.
func TestNonces(t *testing.T) {
	for i, w := range worlds()[:2] {
		next := nth(w.Draws.List, w.Draws.Next)
		for _, nonce := range append(slices.Clone(edges), next, next+1, next+2, w.People[1].Key, w.People[2].Key) {
			if slices.Contains(w.People[0].Used, nonce) {
				t.Fatal(i, nonce)
			}
			v := expect(t, w, ask(3, 2, nonce), api.OK)
			if l := v.People[0].Used; l[len(l)-1] != nonce || len(l) != len(w.People[0].Used)+1 || v.Log[len(w.Log)].N != nonce {
				t.Fatal(i, nonce, l)
			}
			for _, m := range []api.Msg{ask(3, 2, nonce), ask(2, 3, nonce), ask(1, 2, nonce), ask(3, 1, nonce)} {
				expect(t, v, m, api.ErrReplay)
			}
			expect(t, v, ask(3, 2, nonce^1<<31^4), api.OK)
		}
	}
}

// P13.1: the server's row alone says what was granted.
func TestWhoseRow(t *testing.T) {
	w := ready()
	for p := 1; p <= 3; p++ {
		w.People[p].Used = row{5, 6, 7, 8, 9}
	}
	v := expect(t, w, ask(1, 2, 5), api.OK)
	for p := 1; p <= 3; p++ {
		if !samePerson(v.People[p], w.People[p]) {
			t.Error(p, v.People[p])
		}
	}
	w.People[0].Used = row{5, 6, 7}
	w.People[1].Used, w.People[2].Used, w.People[3].Used = nil, nil, nil
	for _, nonce := range []uint32{5, 6, 7} {
		expect(t, w, ask(1, 2, nonce), api.ErrReplay)
	}
	expect(t, w, ask(1, 2, 8), api.OK)
}

// P13.1: the server's row has room for so many nonces as Conf says: with one place left one more is granted, then none.
func TestUsedRoom(t *testing.T) {
	for _, room := range []int{0, 1, 2, 3, 31, 63, 64} {
		for used := max(0, room-3); used <= room; used++ {
			w := ready()
			w.Conf.Used = room
			for p := range w.People {
				w.People[p].Used = nil
			}
			w.People[0].Used = words(used, 5)
			if used == room {
				expect(t, w, ask(1, 2, 9), api.ErrFull)
			} else {
				v := expect(t, w, ask(1, 2, 9), api.OK)
				if !slices.Equal(v.People[0].Used, append(words(used, 5), 9)) {
					t.Fatal(room, used, v.People[0].Used)
				}
			}
			for _, nonce := range w.People[0].Used {
				expect(t, w, ask(1, 2, nonce), api.ErrReplay)
			}
		}
	}
}

// P13.1: the box needs room for two, the net for one.
func TestRoom(t *testing.T) {
	for boxes := range 5 {
		for frames := range 4 {
			for entries := range 3 {
				for grams := range 4 {
					w := ready()
					w.Conf.Box, w.Conf.Net = entries+boxes, grams+frames
					w.Box.Room, w.Net.Room = entries+boxes, grams+frames
					w.Box.Sealed, w.Net.Grams = w.Box.Sealed[:entries], w.Net.Grams[:grams]
					want := api.ErrFull
					if boxes >= 2 && frames >= 1 {
						want = api.OK
					}
					expect(t, w, ask(1, 2, 9), want)
				}
			}
		}
	}
}

// P13.1: the greatest rooms: full, and with just the room that is asked for.
func TestGreatestRoom(t *testing.T) {
	w := greatest()
	v := expect(t, w, ask(6, 5, 1<<31+77), api.OK)
	if len(v.Box.Sealed) != 64 || len(v.Net.Grams) != 64 || len(v.Net.Seen) != 301 || len(v.People[0].Used) != 64 {
		t.Fatal(len(v.Box.Sealed), len(v.Net.Grams), len(v.Net.Seen), len(v.People[0].Used))
	}
	boxes, frames := greatest(), greatest()
	boxes.Box.Sealed = append(boxes.Box.Sealed, api.Sealed{Handle: 99})
	frames.Net.Grams = append(frames.Net.Grams, api.Gram{To: 99})
	expect(t, boxes, ask(6, 5, 1<<31+77), api.ErrFull)
	expect(t, frames, ask(6, 5, 1<<31+77), api.ErrFull)
}

// faults are what may stand in the way of a grant of ready's, in the chapter's order.
var faults = []struct {
	name  string
	errno api.Errno
	make  func(w *api.World, m *api.Msg)
}{
	{"like names", api.ErrName, func(w *api.World, m *api.Msg) { m.B = m.A }},
	{"clock at its end", api.ErrStale, func(w *api.World, m *api.Msg) { w.People[0].Clock = 1 << 30 }},
	{"nonce used", api.ErrReplay, func(w *api.World, m *api.Msg) { w.People[0].Used = append(w.People[0].Used, m.Nonce) }},
	{"used full", api.ErrFull, func(w *api.World, m *api.Msg) { w.Conf.Used = len(w.People[0].Used) }},
	{"no room in the box", api.ErrFull, func(w *api.World, m *api.Msg) { w.Conf.Box, w.Box.Room = 3, 3 }},
	{"no room in the net", api.ErrFull, func(w *api.World, m *api.Msg) { w.Conf.Net, w.Net.Room = 3, 3 }},
	{"handle of the ticket used", api.ErrReplay, func(w *api.World, m *api.Msg) { w.Box.Sealed[0].Handle = 1<<31 | 25 }},
	{"handle of the grant used", api.ErrReplay, func(w *api.World, m *api.Msg) { w.Box.Sealed[1].Handle = 1<<31 | 26 }},
}

// P13.1: of several errors that apply the one is told that the chapter names first, and nothing is done; written out for each set of what may stand in the way.
func TestFirstError(t *testing.T) {
	for set := range 1 << len(faults) {
		w, m := deep(ready()), ask(2, 3, 9)
		want := api.OK
		var names []string
		for i, f := range faults {
			if set>>i&1 == 0 {
				continue
			}
			f.make(&w, &m)
			names = append(names, f.name)
			if want == api.OK {
				want = f.errno
			}
		}
		was := deep(w)
		got, errno := check(t, w, m)
		if errno != want {
			t.Errorf("%q: %d, want %d", names, errno, want)
		}
		if want != api.OK && !sameWorld(got, was) {
			t.Errorf("%q: another world", names)
		}
	}
}

// P13.1: names that make no pair, each kind of them, are told ahead of all else.
func TestNameAheadOfAll(t *testing.T) {
	for _, x := range [][2]uint32{{0, 1}, {1, 0}, {0, 0}, {2, 2}, {1, 4}, {4, 1}, {math.MaxUint32, 1}, {1, math.MaxUint32}} {
		w, m := deep(ready()), ask(x[0], x[1], 9)
		for _, f := range faults[1:] {
			f.make(&w, &m)
			expect(t, w, m, api.ErrName)
		}
	}
}

// P13.1: a draw that is a handle already can't be the ticket's, nor the grant's: w comes back, with nothing drawn.
func TestHandlesUsed(t *testing.T) {
	for _, x := range []struct {
		name   string
		list   row
		handle uint32
		want   api.Errno
	}{
		{"all unlike", row{40, 41, 42}, 31, api.OK},
		{"the key is a handle", row{40, 41, 42}, 1<<31 | 40, api.OK},
		{"the ticket's is one", row{40, 41, 42}, 1<<31 | 41, api.ErrReplay},
		{"the grant's is one", row{40, 41, 42}, 1<<31 | 42, api.ErrReplay},
		{"the next one's is one", row{40, 41, 42, 43}, 1<<31 | 43, api.OK},
		{"without the draw's bit it is another one", row{40, 41, 42}, 41, api.OK},
		{"with the bit in the list", row{40, 1<<31 | 41, 42}, 1<<31 | 41, api.ErrReplay},
		{"both like", row{40, 41, 41}, 31, api.ErrReplay},
		{"like but for the bit", row{40, 41, 1<<31 | 41}, 31, api.ErrReplay},
		{"all three like", row{40, 40, 40}, 31, api.ErrReplay},
		{"the key like the ticket's", row{40, 40, 41}, 31, api.OK},
		{"the key like the grant's", row{40, 41, 40}, 31, api.OK},
		{"behind the list's end", row{40}, 3<<30 | 1, api.ErrReplay},
		{"further behind it", row{40}, 3<<30 | 2, api.ErrReplay},
		{"behind it, the key", row{}, 3 << 30, api.OK},
		{"behind it, unlike", row{}, 3<<30 | 3, api.OK},
		{"the list is like what is behind it", row{40, 1<<30 | 2}, 31, api.ErrReplay},
	} {
		for at := range 2 {
			w := deep(ready())
			w.Draws = api.Draws{List: x.list}
			w.Box.Sealed[at].Handle = x.handle
			w.Box.Sealed[1-at].Handle = 33
			got, errno := check(t, w, ask(1, 2, 9))
			if errno != x.want || errno != api.OK && (got.Draws.Next != 0 || len(got.Box.Sealed) != 2 || len(got.Log) != 2) {
				t.Errorf("%s: %d, want %d: %+v", x.name, errno, x.want, got)
			}
		}
	}
}

// P13.1: draws wherever Next is: ahead of the list's end, across it, behind it, and near the last Next that a world may have.
func TestDraws(t *testing.T) {
	for next := range 15 {
		w := ready()
		w.Draws.Next = next
		v := expect(t, w, ask(1, 2, 9), api.OK)
		if v.Draws.Next != next+3 || v.Log[2].K != nth(w.Draws.List, next) {
			t.Error(next, v.Draws.Next, v.Log[2])
		}
	}
	for next := 1<<20 - 6; next <= 1<<20; next++ {
		w := ready()
		w.Draws.Next = next
		v := expect(t, w, ask(1, 2, 9), api.OK)
		at := 3221225472 + uint32(next)
		if v.Draws.Next != next+3 || v.Log[2].K != at || v.Box.Sealed[2].Handle != at+1 || v.Box.Sealed[3].Handle != at+2 {
			t.Error(next, v.Draws.Next, v.Log[2], v.Box.Sealed[2:])
		}
		w.Box.Sealed = []api.Sealed{{Handle: at + 2}}
		expect(t, w, ask(1, 2, 9), api.ErrReplay)
	}
}

// P13.1: a principal that is corrupt, or whose key is like another one's, or 0, is granted to as any other.
func TestPrincipalsAsTheyAre(t *testing.T) {
	for _, keys := range [][2]uint32{{0, 0}, {5, 5}, {0, 1 << 31}, {math.MaxUint32, 7}, {1<<31 | 24, 1<<31 | 25}} {
		for _, corrupt := range []bool{false, true} {
			w := ready()
			w.People[0].Corrupt, w.People[1].Corrupt, w.People[2].Corrupt = corrupt, corrupt, !corrupt
			w.People[1].Key, w.People[2].Key = keys[0], keys[1]
			// The server's key seals nothing.
			w.People[0].Key = 12345
			v := expect(t, w, ask(1, 2, 9), api.OK)
			if v.Box.Sealed[2].Key != keys[1] || v.Box.Sealed[3].Key != keys[0] {
				t.Error(keys, v.Box.Sealed[2:])
			}
			expect(t, w, ask(2, 1, 9), api.OK)
		}
	}
}

// P13.1: whatever else a world has: all is as the chapter's words say, in worlds that are put together by chance.
func TestByChance(t *testing.T) {
	r := rand.New(rand.NewSource(13))
	told := map[api.Errno]int{}
	for range 20000 {
		w := chance(r)
		m := ask(uint32(r.Intn(w.Conf.People+2)), uint32(r.Intn(w.Conf.People+2)), uint32(r.Intn(20)))
		_, errno := check(t, w, m)
		told[errno]++
	}
	for _, errno := range []api.Errno{api.OK, api.ErrName, api.ErrStale, api.ErrReplay, api.ErrFull} {
		if told[errno] < 500 {
			t.Error(errno, told)
		}
	}
}

// chance puts a world together that has its form.
func chance(r *rand.Rand) api.World {
	c := api.Conf{Window: uint32(r.Intn(5)), People: 1 + r.Intn(6), Box: 1 + r.Intn(8), Used: 1 + r.Intn(8), Runs: r.Intn(3), Net: 1 + r.Intn(5), Regs: 1 + r.Intn(3)}
	w := api.World{Conf: c, Box: api.Box{Room: c.Box}, Net: api.Net{Room: c.Net}, Regs: make([]row, c.Regs)}
	for range r.Intn(12) {
		w.Draws.List = append(w.Draws.List, uint32(r.Intn(30)))
	}
	w.Draws.Next = r.Intn(12)
	for i, handle := range r.Perm(30)[:r.Intn(c.Box+1)] {
		w.Box.Sealed = append(w.Box.Sealed, api.Sealed{Handle: 1<<31 | uint32(handle), Key: uint32(r.Intn(9)), Label: uint32(r.Intn(12)), Plain: words(r.Intn(6), i)})
	}
	for i := range r.Intn(c.Net + 1) {
		w.Net.Grams = append(w.Net.Grams, api.Gram{To: uint32(r.Intn(9)), Words: words(r.Intn(20), i)})
	}
	for i := range r.Intn(6) {
		w.Net.Seen = append(w.Net.Seen, words(r.Intn(20), i))
		w.Log = append(w.Log, event(r.Intn(9)))
	}
	for name := range c.People + 1 {
		p := someone(uint32(name), r.Intn(40), 0, r.Intn(c.Runs+1))
		for _, word := range r.Perm(20)[:r.Intn(c.Used+1)] {
			p.Used = append(p.Used, uint32(word))
		}
		if r.Intn(6) == 0 {
			p.Clock = 1 << 30
		}
		w.People = append(w.People, p)
	}
	return w
}

// P13.2: whoever asks, and whenever: of each nonce there is one grant at most, and one event; ErrReplay is told just of those that were granted, but where ErrName stands ahead of it.
func TestNonceOnce(t *testing.T) {
	r := rand.New(rand.NewSource(14))
	for range 60 {
		w := fresh()
		w.Draws.List = nil
		w.Conf.Box, w.Box.Room, w.Conf.Net, w.Net.Room, w.Conf.Used = 64, 64, 64, 64, 20
		grants := map[uint32]int{}
		for range 120 {
			m := ask(uint32(r.Intn(4)), uint32(1+r.Intn(3)), uint32(r.Intn(30)))
			v, errno := check(t, w, m)
			if errno == api.OK {
				grants[m.Nonce]++
			} else if was := grants[m.Nonce] > 0; was != (errno == api.ErrReplay) && errno != api.ErrName {
				t.Fatal(m, errno, grants)
			}
			w = v
			w.People = slices.Clone(w.People)
			w.People[0].Clock += uint32(r.Intn(3))
			w.Net.Grams = w.Net.Grams[:min(len(w.Net.Grams), 60)]
			w.Box.Sealed = w.Box.Sealed[max(0, len(w.Box.Sealed)-60):]
		}
		logged := map[uint32]int{}
		for _, e := range w.Log {
			logged[e.N]++
		}
		if !reflect.DeepEqual(logged, grants) || len(grants) != 20 {
			t.Fatal(logged, grants)
		}
		for nonce, count := range grants {
			if count != 1 {
				t.Fatal(nonce, count)
			}
		}
	}
}

// P13.2: no key that is granted stands in a frame, on its way or seen, where draws are unlike; it stands in what is sealed for A and for B alone, each under a key of theirs.
func TestKeysInNoFrame(t *testing.T) {
	for i, w := range worlds()[:2] {
		for _, m := range []api.Msg{ask(1, 2, 50), ask(2, 3, 51)} {
			was := len(w.Box.Sealed)
			w = expect(t, w, m, api.OK)
			key := w.Log[len(w.Log)-1].K
			if slices.ContainsFunc(w.Net.Seen, has(key)) || slices.ContainsFunc(w.Net.Grams, func(g api.Gram) bool { return g.To == key || has(key)(g.Words) }) {
				t.Fatal(i, m, key, w.Net)
			}
			for at, s := range w.Box.Sealed {
				theirs := at >= was && (s.Key == w.People[m.A].Key || s.Key == w.People[m.B].Key)
				if has(key)(s.Plain) != theirs || s.Handle == key {
					t.Fatal(i, m, key, s)
				}
			}
			w.Net.Grams = w.Net.Grams[:min(len(w.Net.Grams), 3)]
		}
		for _, e := range w.Log[len(w.Log)-2:] {
			if slices.ContainsFunc(w.Net.Seen, has(e.K)) || slices.ContainsFunc(w.Regs, has(e.K)) || slices.Contains(w.People[0].Used, e.K) {
				t.Fatal(i, e.K)
			}
		}
	}
}

// has answers the question whether a word stands in a row.
func has(word uint32) func(row) bool {
	return func(l row) bool { return slices.Contains(l, word) }
}

// asked are messages that are granted, and such as aren't, for each reason.
func asked() []api.Msg {
	return []api.Msg{ask(1, 2, 1<<31+50), ask(2, 1, 1<<31+50), ask(2, 1, 1<<31+51), ask(1, 1, 5), ask(0, 2, 5), ask(1, 9, 5), ask(1, 2, 1), ask(1, 2, 70001)}
}

// places answers worlds in which something is granted, and such in which nothing is, for each reason.
func places() []api.World {
	l := worlds()
	for _, f := range faults[1:] {
		w, m := deep(ready()), ask(1, 2, 1<<31+50)
		f.make(&w, &m)
		l = append(l, w)
	}
	return l
}

// fillNew fills the lists of an answer that didn't stay as they were in w: those that have more than they had, and what they have anew.
func fillNew(v, w api.World) {
	if len(v.Log) == len(w.Log) {
		return
	}
	for _, s := range v.Box.Sealed[len(w.Box.Sealed):] {
		fill(s.Plain, 6)
	}
	for _, g := range v.Net.Grams[len(w.Net.Grams):] {
		fill(g.Words, 6)
	}
	for _, l := range v.Net.Seen[len(w.Net.Seen):] {
		fill(l, 6)
	}
	fill(v.People[0].Used, 6)
	fill(v.Box.Sealed, api.Sealed{Handle: 6})
	fill(v.Net.Grams, api.Gram{To: 6})
	fill(v.Net.Seen, row{6})
	fill(v.People, api.Person{Name: 66})
	fill(v.Log, event(6))
}

// P13.3: no call changes a world, nor what stands ahead of its lists and in the room behind them; a write into what an answer has anew is seen neither in the world nor in another answer.
func TestHandedInStays(t *testing.T) {
	for i, world := range places() {
		for _, m := range asked() {
			name := fmt.Sprint(i, m)
			w, h := roomy(world)
			one, _ := ksn.Grant(w, m)
			want := deep(one)
			two, _ := ksn.Grant(w, m)
			if !h.isAsItWas() || !sameWorld(w, world) {
				t.Fatal(name, "changes what is handed in")
			}
			fillNew(one, w)
			if !h.isAsItWas() || !sameWorld(w, world) {
				t.Fatal(name, "a write into an answer is seen in what was handed in")
			}
			if !sameWorld(two, want) {
				t.Fatal(name, "a write into one answer is seen in another one")
			}
			fillNew(two, w)
			if three, _ := ksn.Grant(w, m); !sameWorld(three, want) {
				t.Fatal(name, "a write into one answer is seen in a later one")
			}
		}
	}
}

// P13.3: answers of one world go on apart: what is granted in one isn't granted in another.
func TestAnswersGoOnApart(t *testing.T) {
	for i, world := range worlds() {
		w, _ := roomy(world)
		one, errno := ksn.Grant(w, ask(1, 2, 1<<31+50))
		if errno != api.OK {
			t.Fatal(i, errno)
		}
		want := deep(one)
		two, _ := ksn.Grant(w, ask(2, 1, 1<<31+51))
		wantTwo := deep(two)
		for _, m := range asked() {
			three, _ := ksn.Grant(one, m)
			four, _ := ksn.Grant(two, m)
			fillNew(three, one)
			fillNew(four, two)
			if !sameWorld(w, world) || !sameWorld(one, want) || !sameWorld(two, wantTwo) {
				t.Fatal(i, m)
			}
		}
		fillNew(one, w)
		if !sameWorld(w, world) || !sameWorld(two, wantTwo) {
			t.Fatal(i, "a later change of one answer")
		}
	}
}

// P13.3: what an answer has anew doesn't change when what was handed in does.
func TestLaterChangeOfTheWorld(t *testing.T) {
	for room := range 4 {
		w := deep(ready())
		// Once there is no room behind the lists, then there is.
		w.Box.Sealed, w.Net.Grams, w.Net.Seen = with(w.Box.Sealed, room), with(w.Net.Grams, room), with(w.Net.Seen, room)
		w.Log, w.People, w.People[0].Used = with(w.Log, room), with(w.People, room), with(w.People[0].Used, room)
		want, _ := granted(w, ask(1, 2, 9))
		got, _ := ksn.Grant(w, ask(1, 2, 9))
		fill(w.People[0].Used, 6)
		fill(w.Box.Sealed, api.Sealed{Handle: 6})
		fill(w.Net.Grams, api.Gram{To: 6})
		fill(w.Net.Seen, row{6})
		fill(w.Log, event(6))
		fill(w.People, api.Person{Name: 66})
		if !sameWorld(got, want) {
			t.Errorf("%d: %+v, want %+v", room, got, want)
		}
	}
}

// with answers a copy of a list that has so much room behind it.
func with[T any](l []T, room int) []T {
	m := make([]T, len(l), len(l)+room)
	copy(m, l)
	return m
}

// Rule 8: what is answered hangs on what is handed in now, and on no call ahead of it.
func TestNothingIsKept(t *testing.T) {
	for _, m := range asked() {
		want, wantErrno := ksn.Grant(ready(), m)
		want = deep(want)
		for _, w := range places() {
			for _, n := range asked() {
				ksn.Grant(w, n)
			}
		}
		if got, errno := ksn.Grant(ready(), m); errno != wantErrno || !sameWorld(got, want) {
			t.Fatal(m, errno, got, want)
		}
	}
}

// Rule 5: nil and empty lists are one.
func TestNilAndEmpty(t *testing.T) {
	w := fresh()
	w.Box.Sealed, w.Net.Grams, w.Net.Seen, w.Log, w.Leaks, w.People[0].Used, w.People[0].Runs = nil, nil, nil, nil, nil, nil, nil
	v := fresh()
	v.Box.Sealed, v.Net.Grams, v.Net.Seen, v.Log, v.Leaks, v.People[0].Used, v.People[0].Runs = []api.Sealed{}, []api.Gram{}, []row{}, []api.Event{}, []api.Leak{}, row{}, []api.Run{}
	a, b := expect(t, w, ask(1, 2, 9), api.OK), expect(t, v, ask(1, 2, 9), api.OK)
	if !sameWorld(a, b) {
		t.Error(a, b)
	}
}

// P1 of all layers: calls end, and don't panic, at worlds and messages too of which nothing is promised.
func TestEveryCallEnds(t *testing.T) {
	l := append(places(), api.World{}, api.World{People: []api.Person{{Name: 1}, {Name: 2}}, Conf: api.Conf{Used: 1}, Box: api.Box{Room: 9}, Net: api.Net{Room: 9}})
	for _, n := range []int{math.MinInt, -3, -1, 0, 1, 65, math.MaxInt - 3, math.MaxInt} {
		w := ready()
		w.Conf = api.Conf{Window: math.MaxUint32, People: n, Box: n, Used: n, Runs: n, Net: n, Regs: n}
		w.Box.Room, w.Net.Room, w.Draws.Next = n, n, n
		v := ready()
		v.Draws.Next, v.People[0].Clock = n, math.MaxUint32
		u := ready()
		u.Draws.Next = n
		l = append(l, w, v, u)
	}
	for _, w := range l {
		for kind := range uint32(11) {
			for _, a := range edges {
				for _, b := range []uint32{0, 1, 2, 9, math.MaxUint32} {
					ksn.Grant(w, api.Msg{Kind: kind, Run: a, A: a, B: b, Nonce: a, Box: b, More: a})
				}
			}
		}
	}
}
