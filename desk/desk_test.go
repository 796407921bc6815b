package desk_test

import (
	"fmt"
	"math"
	"reflect"
	"slices"
	"testing"

	"chamberlain/api"
	"chamberlain/desk"
	"chamberlain/people"
)

type row = []uint32

// edges are words that are easily taken for each other, or for nothing.
var edges = row{0, 1, 2, 3, 7, 255, 256, math.MaxInt32, 1 << 31, 3 << 30, math.MaxUint32 - 1, math.MaxUint32}

// sameWorld and what it asks tell whether two are like each other in all that they have; nil and empty lists are one.
func sameWorld(a, b api.World) bool {
	return a.Conf == b.Conf && a.Draws.Next == b.Draws.Next && slices.Equal(a.Draws.List, b.Draws.List) &&
		a.Box.Room == b.Box.Room && slices.EqualFunc(a.Box.Sealed, b.Box.Sealed, sameEntry) &&
		a.Net.Room == b.Net.Room && slices.EqualFunc(a.Net.Grams, b.Net.Grams, sameGram) && sameRows(a.Net.Seen, b.Net.Seen) &&
		slices.EqualFunc(a.People, b.People, samePerson) && slices.Equal(a.Log, b.Log) && sameRows(a.Regs, b.Regs) && slices.Equal(a.Leaks, b.Leaks)
}

func sameEntry(a, b api.Sealed) bool {
	return a.Handle == b.Handle && a.Key == b.Key && a.Label == b.Label && slices.Equal(a.Plain, b.Plain)
}

func sameGram(a, b api.Gram) bool {
	return a.To == b.To && slices.Equal(a.Words, b.Words)
}

func sameRows(a, b []row) bool {
	return slices.EqualFunc(a, b, slices.Equal[row])
}

func samePerson(a, b api.Person) bool {
	return a.Name == b.Name && a.Key == b.Key && a.Clock == b.Clock && a.Corrupt == b.Corrupt && slices.Equal(a.Used, b.Used) && slices.Equal(a.Runs, b.Runs)
}

// words answers so many words, unlike those of another number.
func words(count, number int) row {
	var l row
	for i := range count {
		l = append(l, uint32(1000*number+i+1))
	}
	return l
}

// run answers a run that may be, like no other one of another number.
func run(number int) api.Run {
	n := uint32(number)
	return api.Run{Proto: 1 + number%2, Role: 1 + number/2%2, Peer: n + 1, Mine: n + 2, Their: n + 3, M: n + 4, K: n + 5, T: n + 6, State: 1 + number%3}
}

// someone answers a person with so many used words and runs.
func someone(name uint32, number, used, many int) api.Person {
	p := api.Person{Name: name, Key: uint32(number + 5), Clock: uint32(number + 6), Used: words(used, number), Corrupt: number%2 == 1}
	for i := range many {
		p.Runs = append(p.Runs, run(number+i))
	}
	return p
}

// event answers an event that is like no other one of another number in anything.
func event(number int) api.Event {
	n := uint32(number)
	return api.Event{Kind: number, Proto: number + 1, Role: number + 2, A: n + 3, B: n + 4, K: n + 5, T: n + 6, M: n + 7, N: n + 8, Clock: n + 9}
}

// ready answers a world that has its form, something in each of its lists, and room for more of everything.
func ready() api.World {
	return api.World{
		Conf:  api.Conf{Window: 9, People: 3, Box: 5, Used: 3, Runs: 4, Net: 6, Regs: 2},
		Draws: api.Draws{List: row{21, 22, 23, 24, 1<<31 | 25, 26}, Next: 3},
		Box:   api.Box{Room: 5, Sealed: []api.Sealed{{Handle: 31, Key: 41, Label: 3, Plain: words(3, 51)}, {Handle: 32, Key: 42, Label: 99, Plain: row{}}}},
		Net: api.Net{Room: 6, Grams: []api.Gram{{To: 1, Words: words(2, 61)}, {To: 200, Words: nil}, {To: 0, Words: words(7, 62)}},
			Seen: []row{words(2, 61), words(7, 62), {}, words(3, 63)}},
		People: []api.Person{someone(0, 70, 2, 1), someone(1, 71, 0, 0), someone(2, 74, 1, 3), someone(3, 77, 2, 2)},
		Log:    []api.Event{event(80), event(81)},
		Regs:   []row{words(4, 90), {}},
		Leaks:  []api.Leak{{K: 95, At: 1}, {K: 96, At: 2}},
	}
}

// greatest answers a world whose every limit is reached.
func greatest() api.World {
	w := api.World{
		Conf:  api.Conf{Window: 1 << 20, People: 6, Box: 64, Used: 64, Runs: 64, Net: 64, Regs: 8},
		Draws: api.Draws{Next: 1 << 20},
		Box:   api.Box{Room: 64},
		Net:   api.Net{Room: 64},
	}
	for i := range 64 {
		w.Box.Sealed = append(w.Box.Sealed, api.Sealed{Handle: uint32(i), Plain: words(64, i)})
		w.Net.Grams = append(w.Net.Grams, api.Gram{To: uint32(i), Words: words(64, i)})
	}
	for i := range 300 {
		w.Net.Seen = append(w.Net.Seen, words(64, i))
	}
	for i := range 7 {
		w.People = append(w.People, someone(uint32(i), i, 64, 64))
		w.People[i].Clock = 1 << 30
	}
	for i := range 8 {
		w.Regs = append(w.Regs, words(64, i))
	}
	return w
}

// least answers a world that has no more than it must.
func least() api.World {
	return api.World{Conf: api.Conf{People: 1, Regs: 1}, People: []api.Person{{}, {Name: 1}}, Regs: []row{nil}}
}

// worlds answers worlds that have their form.
func worlds() []api.World {
	late := ready()
	late.Draws.Next = 1 << 20
	return []api.World{ready(), greatest(), least(), late}
}

// hall is memory in which lists stand, with something ahead of each and behind it.
type hall struct {
	stays []func() bool
}

// in answers a list like the one handed in, which stands in a hall.
func in[T any](h *hall, l []T, odd T) []T {
	whole := slices.Concat([]T{odd}, l, []T{odd, odd, odd})
	was := slices.Clone(whole)
	// Lists that the list has stand in the hall themselves.
	h.stays = append(h.stays, func() bool { return reflect.DeepEqual(whole, was) })
	return whole[1 : 1+len(l)]
}

// each answers a list of lists, all of which stand in a hall, and so does the list.
func each(h *hall, l []row) []row {
	var m []row
	for _, one := range l {
		m = append(m, in(h, one, 7))
	}
	return in(h, m, row{8})
}

// moved answers a person like the one handed in, whose lists stand in a hall.
func moved(h *hall, p api.Person) api.Person {
	p.Used, p.Runs = in(h, p.Used, 7), in(h, p.Runs, run(8))
	return p
}

// roomy answers a world like the one handed in, which shares nothing with it, and all of whose lists stand in a hall.
func roomy(w api.World) (api.World, *hall) {
	h := &hall{}
	var sealed []api.Sealed
	for _, s := range w.Box.Sealed {
		s.Plain = in(h, s.Plain, 7)
		sealed = append(sealed, s)
	}
	var grams []api.Gram
	for _, g := range w.Net.Grams {
		g.Words = in(h, g.Words, 7)
		grams = append(grams, g)
	}
	var folk []api.Person
	for _, p := range w.People {
		folk = append(folk, moved(h, p))
	}
	w.Draws.List = in(h, w.Draws.List, 7)
	w.Box.Sealed = in(h, sealed, api.Sealed{Handle: 8})
	w.Net.Grams, w.Net.Seen = in(h, grams, api.Gram{To: 8}), each(h, w.Net.Seen)
	w.People = in(h, folk, api.Person{Name: 8})
	w.Log, w.Leaks = in(h, w.Log, event(8)), in(h, w.Leaks, api.Leak{K: 8})
	w.Regs = each(h, w.Regs)
	return w, h
}

// deep answers a copy of a world that shares nothing with it.
func deep(w api.World) api.World {
	v, _ := roomy(w)
	return v
}

// isAsItWas asks whether nothing in a hall was written into.
func (h *hall) isAsItWas() bool {
	return !slices.ContainsFunc(h.stays, func(stays func() bool) bool { return !stays() })
}

// fill fills a list, and the room behind its length, with something else.
func fill[T any](l []T, odd T) {
	for i := range l[:cap(l)] {
		l[:cap(l)][i] = odd
	}
}

// nth tells chapter 4's words anew: the i-th draw of a list.
func nth(list row, i int) uint32 {
	if i >= len(list) {
		return 3221225472 | uint32(i)
	}
	return list[i] | 2147483648
}

// labels are all that there are.
var labels = row{2, 3, 4, 5, 6, 7, 8, 9}

// partOf tells chapter 11's words anew: the words of a part, and a part that has nothing but these.
func partOf(label uint32, p api.Part) (row, api.Part) {
	switch label {
	case 2:
		return row{p.N, p.B, p.K, p.T, p.H}, api.Part{N: p.N, B: p.B, K: p.K, T: p.T, H: p.H}
	case 3:
		return row{p.K, p.A, p.T}, api.Part{K: p.K, A: p.A, T: p.T}
	case 4, 5:
		return row{p.N}, api.Part{N: p.N}
	case 6, 7:
		return row{p.N, p.M, p.A, p.B}, api.Part{N: p.N, M: p.M, A: p.A, B: p.B}
	case 8, 9:
		return row{p.N, p.K}, api.Part{N: p.N, K: p.K}
	}
	return nil, api.Part{}
}

// frameOf tells chapter 3's words anew: the frame of a message, and a message that has nothing but what its Kind has.
func frameOf(m api.Msg) (row, api.Msg) {
	k := m.Kind
	switch k {
	case 1:
		return row{1, 1, k, 3, 1, m.A, 4, 1, m.B, 5, 1, m.Nonce}, api.Msg{Kind: k, A: m.A, B: m.B, Nonce: m.Nonce}
	case 2, 3, 4, 5:
		return row{1, 1, k, 6, 1, m.Box}, api.Msg{Kind: k, Box: m.Box}
	case 6:
		return row{1, 1, k, 2, 1, m.Run, 3, 1, m.A, 4, 1, m.B, 6, 1, m.Box}, api.Msg{Kind: k, Run: m.Run, A: m.A, B: m.B, Box: m.Box}
	case 7:
		return row{1, 1, k, 2, 1, m.Run, 3, 1, m.A, 4, 1, m.B, 6, 1, m.Box, 7, 1, m.More}, api.Msg{Kind: k, Run: m.Run, A: m.A, B: m.B, Box: m.Box, More: m.More}
	case 8:
		return row{1, 1, k, 2, 1, m.Run, 6, 1, m.Box, 7, 1, m.More}, api.Msg{Kind: k, Run: m.Run, Box: m.Box, More: m.More}
	case 9:
		return row{1, 1, k, 2, 1, m.Run, 6, 1, m.Box}, api.Msg{Kind: k, Run: m.Run, Box: m.Box}
	}
	return nil, api.Msg{}
}

// sealed, opened, sent and with tell the chapter's words anew; each answers in new memory.
func sealed(w api.World, key, label uint32, p api.Part) (api.World, uint32, api.Errno) {
	v := deep(w)
	l, may := partOf(label, p)
	if len(l) == 0 || p != may {
		return v, 0, api.ErrArg
	}
	handle := nth(w.Draws.List, w.Draws.Next)
	if slices.ContainsFunc(w.Box.Sealed, func(s api.Sealed) bool { return s.Handle == handle }) {
		return v, 0, api.ErrReplay
	}
	if len(w.Box.Sealed) == w.Box.Room {
		return v, 0, api.ErrFull
	}
	v.Draws.Next++
	v.Box.Sealed = append(v.Box.Sealed, api.Sealed{Handle: handle, Key: key, Label: label, Plain: l})
	return v, handle, api.OK
}

func opened(w api.World, key, label, handle uint32) (api.Part, bool) {
	for _, s := range w.Box.Sealed {
		if s.Handle == handle && s.Key == key && s.Label == label {
			return read(label, s.Plain)
		}
	}
	return api.Part{}, false
}

// read tells chapter 11's words anew, the other way round than partOf.
func read(label uint32, l row) (api.Part, bool) {
	switch {
	case label == 2 && len(l) == 5:
		return api.Part{N: l[0], B: l[1], K: l[2], T: l[3], H: l[4]}, true
	case label == 3 && len(l) == 3:
		return api.Part{K: l[0], A: l[1], T: l[2]}, true
	case (label == 4 || label == 5) && len(l) == 1:
		return api.Part{N: l[0]}, true
	case (label == 6 || label == 7) && len(l) == 4:
		return api.Part{N: l[0], M: l[1], A: l[2], B: l[3]}, true
	case (label == 8 || label == 9) && len(l) == 2:
		return api.Part{N: l[0], K: l[1]}, true
	}
	return api.Part{}, false
}

func sent(w api.World, to uint32, m api.Msg) (api.World, api.Errno) {
	v := deep(w)
	l, may := frameOf(m)
	if len(l) == 0 || m != may {
		return v, api.ErrArg
	}
	if len(w.Net.Grams) == w.Net.Room {
		return v, api.ErrFull
	}
	v.Net.Grams = append(v.Net.Grams, api.Gram{To: to, Words: l})
	v.Net.Seen = append(v.Net.Seen, slices.Clone(l))
	return v, api.OK
}

func with(w api.World, p api.Person) api.World {
	v := deep(w)
	for i := range v.People {
		if v.People[i].Name == p.Name {
			v.People[i] = moved(&hall{}, p)
		}
	}
	return v
}

// checkSeal holds Seal against the chapter's words, and answers what it did.
func checkSeal(t *testing.T, w api.World, key, label uint32, p api.Part) (api.World, api.Errno) {
	t.Helper()
	want, wantHandle, wantErrno := sealed(w, key, label, p)
	got, handle, errno := desk.Seal(w, key, label, p)
	if errno != wantErrno || handle != wantHandle || !sameWorld(got, want) {
		t.Fatalf("Seal(%d, %d, %+v) = %d, %d, want %d, %d: %+v, want %+v", key, label, p, handle, errno, wantHandle, wantErrno, got, want)
	}
	if fits := got.Draws.Next <= 1<<20; desk.Form(got) != fits {
		t.Fatalf("Seal(%d, %d, %+v): its form", key, label, p)
	}
	return got, errno
}

// checkOpen holds Open against the chapter's words, and answers whether it opens.
func checkOpen(t *testing.T, w api.World, key, label, handle uint32) bool {
	t.Helper()
	want, wantOk := opened(w, key, label, handle)
	if got, ok := desk.Open(w, key, label, handle); ok != wantOk || got != want {
		t.Fatalf("Open(%d, %d, %d) = %+v, %v, want %+v, %v", key, label, handle, got, ok, want, wantOk)
	}
	return wantOk
}

// checkSend holds Send against the chapter's words, and answers what it did.
func checkSend(t *testing.T, w api.World, to uint32, m api.Msg) (api.World, api.Errno) {
	t.Helper()
	want, wantErrno := sent(w, to, m)
	got, errno := desk.Send(w, to, m)
	if errno != wantErrno || !sameWorld(got, want) {
		t.Fatalf("Send(%d, %+v) = %d, want %d: %+v, want %+v", to, m, errno, wantErrno, got, want)
	}
	if !desk.Form(got) {
		t.Fatalf("Send(%d, %+v): its form", to, m)
	}
	return got, errno
}

// checkWith holds With and Person against the chapter's words, and answers what With did.
func checkWith(t *testing.T, w api.World, p api.Person) api.World {
	t.Helper()
	want, got := with(w, p), desk.With(w, p)
	if !sameWorld(got, want) {
		t.Fatalf("With(%+v) = %+v, want %+v", p, got, want)
	}
	who := p
	if int(p.Name) >= len(w.People) {
		who = api.Person{}
	}
	if q := desk.Person(got, p.Name); !samePerson(q, who) {
		t.Fatalf("Person(%d) = %+v, want %+v", p.Name, q, who)
	}
	return got
}

// numbers are the numbers of a configuration, but its Window, each with its bounds.
var numbers = []struct {
	name        string
	least, most int
	at          func(c *api.Conf) *int
}{
	{"People", 1, 6, func(c *api.Conf) *int { return &c.People }},
	{"Box", 0, 64, func(c *api.Conf) *int { return &c.Box }},
	{"Used", 0, 64, func(c *api.Conf) *int { return &c.Used }},
	{"Runs", 0, 64, func(c *api.Conf) *int { return &c.Runs }},
	{"Net", 0, 64, func(c *api.Conf) *int { return &c.Net }},
	{"Regs", 1, 8, func(c *api.Conf) *int { return &c.Regs }},
}

// confs answers configurations that may be.
func confs() []api.Conf {
	return []api.Conf{ready().Conf, greatest().Conf, least().Conf, {Window: 1, People: 2, Box: 3, Used: 4, Runs: 5, Net: 6, Regs: 7}}
}

// P12.1: of each number of a configuration what is within its bounds, at them and beyond, below 0 too, and such as would be within if they were cut.
func TestMayOfEachNumber(t *testing.T) {
	for _, c := range confs() {
		if !desk.May(c) {
			t.Error(c)
		}
		for _, x := range numbers {
			tried := []int{math.MinInt, math.MinInt + 1, math.MinInt32, math.MaxInt32, math.MaxInt - 1, math.MaxInt}
			for n := -70; n <= 140; n++ {
				tried = append(tried, n, n+1<<8, n+1<<16, n+1<<32, n-1<<32, n+1<<62, n-1<<62)
			}
			for _, n := range tried {
				d := c
				*x.at(&d) = n
				if got := desk.May(d); got != (n >= x.least && n <= x.most) {
					t.Errorf("May of %s %d: %v", x.name, n, got)
				}
			}
		}
	}
}

// P12.1: a Window is at most 2^20.
func TestMayOfWindow(t *testing.T) {
	for _, c := range confs() {
		for _, x := range []struct {
			window uint32
			want   bool
		}{{0, true}, {1, true}, {2, true}, {64, true}, {65, true}, {1 << 16, true}, {1<<20 - 1, true}, {1 << 20, true}, {1<<20 + 1, false}, {1<<20 + 2, false}, {1 << 21, false}, {1 << 30, false}, {math.MaxInt32, false}, {1 << 31, false}, {1<<31 + 1, false}, {math.MaxUint32, false}} {
			if c.Window = x.window; desk.May(c) != x.want {
				t.Errorf("May of Window %d: %v", x.window, !x.want)
			}
		}
	}
}

// P12.1: May, written out; two numbers that are out of bounds don't make up for each other.
func TestMayWrittenOut(t *testing.T) {
	for i, x := range []struct {
		c    api.Conf
		want bool
	}{
		{api.Conf{People: 1, Regs: 1}, true},
		{api.Conf{Window: 1 << 20, People: 6, Box: 64, Used: 64, Runs: 64, Net: 64, Regs: 8}, true},
		{api.Conf{}, false},
		{api.Conf{People: 1}, false},
		{api.Conf{Regs: 1}, false},
		{api.Conf{People: 7, Regs: 1}, false},
		{api.Conf{People: 6, Regs: 9}, false},
		{api.Conf{People: 7, Regs: 0}, false},
		{api.Conf{People: -1, Regs: -1}, false},
		{api.Conf{People: 1, Regs: 1, Box: -1, Net: 1}, false},
		{api.Conf{People: 1, Regs: 1, Box: 65, Net: -1}, false},
		{api.Conf{People: 1, Regs: 1, Used: 65, Runs: -65}, false},
		{api.Conf{People: 8, Regs: 6}, false},
	} {
		if desk.May(x.c) != x.want {
			t.Error(i, x.c)
		}
	}
}

// P12.1: worlds that have their form: with all their limits reached, with no more than they must, and behind people's New.
func TestFormOfRightWorlds(t *testing.T) {
	for i, w := range worlds() {
		if !desk.Form(w) || !desk.Form(deep(w)) {
			t.Error(i)
		}
	}
	for n := 1; n <= 6; n++ {
		for regs := 1; regs <= 8; regs++ {
			for _, room := range []int{0, 1, 63, 64} {
				l, d, _ := people.New(n, api.Draws{List: row{1, 2}})
				w := api.World{Conf: api.Conf{People: n, Box: room, Used: 64 - room, Runs: room, Net: 64 - room, Regs: regs}, Draws: d, Box: api.Box{Room: room}, Net: api.Net{Room: 64 - room}, People: l, Regs: make([]row, regs)}
				if !desk.Form(w) {
					t.Error(n, regs, room)
				}
			}
		}
	}
}

// turn is a change of a world, and whether it has its form then.
type turn struct {
	name string
	do   func(w *api.World)
	want bool
}

// checkTurns holds Form of worlds that are ready, but for one thing, against what is wanted.
func checkTurns(t *testing.T, turns []turn) {
	t.Helper()
	for _, x := range turns {
		w := deep(ready())
		if x.do(&w); desk.Form(w) != x.want {
			t.Errorf("Form of %s: %v", x.name, !x.want)
		}
	}
}

// P12.1: a configuration that may not be, though all else is as it says.
func TestFormOfConf(t *testing.T) {
	checkTurns(t, []turn{
		{"a Window of 2^20", func(w *api.World) { w.Conf.Window = 1 << 20 }, true},
		{"a Window beyond", func(w *api.World) { w.Conf.Window = 1<<20 + 1 }, false},
		{"Box 64", func(w *api.World) { w.Conf.Box, w.Box.Room = 64, 64 }, true},
		{"Box 65", func(w *api.World) { w.Conf.Box, w.Box.Room = 65, 65 }, false},
		{"Box 0", func(w *api.World) { w.Conf.Box, w.Box = 0, api.Box{} }, true},
		{"Box -1", func(w *api.World) { w.Conf.Box, w.Box = -1, api.Box{Room: -1} }, false},
		{"Net 64", func(w *api.World) { w.Conf.Net, w.Net.Room = 64, 64 }, true},
		{"Net 65", func(w *api.World) { w.Conf.Net, w.Net.Room = 65, 65 }, false},
		{"Net 0", func(w *api.World) { w.Conf.Net, w.Net = 0, api.Net{} }, true},
		{"Net 0, frames that were seen", func(w *api.World) { w.Conf.Net, w.Net.Room, w.Net.Grams = 0, 0, nil }, true},
		{"Net -1", func(w *api.World) { w.Conf.Net, w.Net = -1, api.Net{Room: -1} }, false},
		{"Used 64", func(w *api.World) { w.Conf.Used = 64 }, true},
		{"Used 65", func(w *api.World) { w.Conf.Used = 65 }, false},
		{"Used far beyond", func(w *api.World) { w.Conf.Used = math.MaxInt }, false},
		{"Runs 64", func(w *api.World) { w.Conf.Runs = 64 }, true},
		{"Runs 65", func(w *api.World) { w.Conf.Runs = 65 }, false},
		{"Runs far beyond", func(w *api.World) { w.Conf.Runs = math.MaxInt }, false},
		{"Regs 8", func(w *api.World) { w.Conf.Regs, w.Regs = 8, make([]row, 8) }, true},
		{"Regs 9", func(w *api.World) { w.Conf.Regs, w.Regs = 9, make([]row, 9) }, false},
		{"Regs 0", func(w *api.World) { w.Conf.Regs, w.Regs = 0, nil }, false},
		{"Regs -1", func(w *api.World) { w.Conf.Regs, w.Regs = -1, nil }, false},
		{"People 1", func(w *api.World) { w.Conf.People, w.People = 1, w.People[:2] }, true},
		{"People 0", func(w *api.World) { w.Conf.People, w.People = 0, w.People[:1] }, false},
		{"People -1", func(w *api.World) { w.Conf.People, w.People = -1, nil }, false},
		{"no configuration", func(w *api.World) { w.Conf = api.Conf{} }, false},
	})
}

// P12.1: the box's room and entries.
func TestFormOfBox(t *testing.T) {
	turns := []turn{
		{"a box of more room", func(w *api.World) { w.Box.Room = 6 }, false},
		{"a box of less room", func(w *api.World) { w.Box.Room = 4 }, false},
		{"a box of just the room", func(w *api.World) { w.Conf.Box, w.Box.Room = 2, 2 }, true},
		{"a box over its room", func(w *api.World) { w.Conf.Box, w.Box.Room = 1, 1 }, false},
		{"a configuration of less room than a box's entries", func(w *api.World) { w.Conf.Box = 1 }, false},
		{"a box without room", func(w *api.World) { w.Box.Room = 0 }, false},
		{"a box below", func(w *api.World) { w.Box.Room = -5 }, false},
		{"no entries", func(w *api.World) { w.Box.Sealed = nil }, true},
		{"one handle twice", func(w *api.World) { w.Box.Sealed[1].Handle = 31 }, false},
		{"whatever keys and labels", func(w *api.World) { w.Box.Sealed[1].Key, w.Box.Sealed[1].Label = 41, 3 }, true},
	}
	for i := range 2 {
		for _, long := range []int{0, 1, 63, 64, 65, 66, 128, 256, 1 << 16} {
			turns = append(turns, turn{fmt.Sprint("the entry ", i, " of ", long, " words"), func(w *api.World) { w.Box.Sealed[i].Plain = make(row, long) }, long <= 64})
		}
	}
	checkTurns(t, turns)
}

// P12.1: the net's room, and its frames, on their way and seen.
func TestFormOfNet(t *testing.T) {
	turns := []turn{
		{"a net of more room", func(w *api.World) { w.Net.Room = 7 }, false},
		{"a net of less room", func(w *api.World) { w.Net.Room = 5 }, false},
		{"a net of just the room", func(w *api.World) { w.Conf.Net, w.Net.Room = 3, 3 }, true},
		{"a net over its room", func(w *api.World) { w.Conf.Net, w.Net.Room = 2, 2 }, false},
		{"a net of the box's room", func(w *api.World) { w.Net.Room = w.Conf.Box }, false},
		{"a net below", func(w *api.World) { w.Net.Room = -6 }, false},
		{"no frames", func(w *api.World) { w.Net.Grams, w.Net.Seen = nil, nil }, true},
		{"whatever names", func(w *api.World) { w.Net.Grams[1].To = math.MaxUint32 }, true},
		{"more frames seen than there is room for", func(w *api.World) { w.Net.Seen = make([]row, 1000) }, true},
	}
	for _, long := range []int{0, 1, 63, 64, 65, 66, 128, 256, 1 << 16} {
		for i := range 3 {
			turns = append(turns, turn{fmt.Sprint("the frame ", i, " of ", long, " words"), func(w *api.World) { w.Net.Grams[i].Words = make(row, long) }, long <= 64})
		}
		for i := range 4 {
			turns = append(turns, turn{fmt.Sprint("the frame ", i, " that was seen, of ", long, " words"), func(w *api.World) { w.Net.Seen[i] = make(row, long) }, long <= 64})
		}
	}
	checkTurns(t, turns)
}

// P12.1: how many people there are, and their names.
func TestFormOfNames(t *testing.T) {
	for n := -1; n <= 8; n++ {
		for many := range 10 {
			w := ready()
			w.Conf.People, w.People = n, nil
			for i := range many {
				w.People = append(w.People, someone(uint32(i), i, 2, 2))
			}
			if want := n >= 1 && n <= 6 && many == n+1; desk.Form(w) != want {
				t.Errorf("Form of %d people, and %d in the row: %v", n, many, !want)
			}
		}
	}
	turns := []turn{
		{"nobody", func(w *api.World) { w.People = nil }, false},
		{"two in each other's place", func(w *api.World) { w.People[1], w.People[2] = w.People[2], w.People[1] }, false},
		{"no server", func(w *api.World) { w.People = append(w.People[1:], someone(4, 9, 0, 0)) }, false},
		{"whatever keys", func(w *api.World) { w.People[0].Key, w.People[2].Key = 5, w.People[1].Key }, true},
		{"all corrupt", func(w *api.World) {
			for i := range w.People {
				w.People[i].Corrupt = true
			}
		}, true},
	}
	for i := range uint32(4) {
		for name := range uint32(6) {
			turns = append(turns, turn{fmt.Sprint("the name ", name, " at ", i), func(w *api.World) { w.People[i].Name = name }, name == i})
		}
	}
	checkTurns(t, turns)
}

// P12.1: clocks of the server and of principals are at most 2^30.
func TestFormOfClocks(t *testing.T) {
	var turns []turn
	for i := range 4 {
		for _, clock := range []uint32{0, 1, 1 << 20, 1<<20 + 1, 1<<30 - 1, 1 << 30, 1<<30 + 1, 1<<30 + 2, 1<<31 - 1, 1 << 31, 1<<31 + 1, math.MaxUint32} {
			turns = append(turns, turn{fmt.Sprint("the clock ", clock, " of ", i), func(w *api.World) { w.People[i].Clock = clock }, clock <= 1<<30})
		}
	}
	checkTurns(t, turns)
}

// P12.1: used words of the server and of principals, for Conf's Used: 3 here, while there is room for 4 runs, and for 5 and 6 in the box and the net.
func TestFormOfUsed(t *testing.T) {
	var turns []turn
	for i := range 4 {
		for many := range 9 {
			turns = append(turns, turn{fmt.Sprint(many, " used words of ", i), func(w *api.World) { w.People[i].Used = words(many, 5) }, many <= 3})
			for room := range 9 {
				turns = append(turns, turn{fmt.Sprint(many, " used words of ", i, ", room ", room), func(w *api.World) {
					for j := range w.People {
						w.People[j].Used = nil
					}
					w.Conf.Used, w.People[i].Used = room, words(many, 5)
				}, many <= room})
			}
		}
		for _, w := range edges {
			for _, l := range []row{{w, w}, {w, w ^ 8, w}, {w ^ 8, w, w}, {w, w, w}} {
				turns = append(turns, turn{fmt.Sprint("the used words ", l, " of ", i), func(w *api.World) { w.People[i].Used = l }, false})
			}
			for _, l := range []row{{w}, {w, w ^ 8}, {w, w ^ 1<<31, w ^ 1}} {
				turns = append(turns, turn{fmt.Sprint("the used words ", l, " of ", i), func(w *api.World) { w.People[i].Used = l }, true})
			}
		}
	}
	turns = append(turns, turn{"all with one used word", func(w *api.World) {
		for i := range w.People {
			w.People[i].Used = row{5}
		}
	}, true})
	checkTurns(t, turns)
}

// P12.1: runs of the server and of principals, for Conf's Runs: 4 here, while there is room for 3 used words, and for 5 and 6 in the box and the net.
func TestFormOfRuns(t *testing.T) {
	var turns []turn
	for i := range 4 {
		for many := range 9 {
			turns = append(turns, turn{fmt.Sprint(many, " runs of ", i), func(w *api.World) { w.People[i].Runs = someone(0, 3, 0, many).Runs }, many <= 4})
			for room := range 9 {
				turns = append(turns, turn{fmt.Sprint(many, " runs of ", i, ", room ", room), func(w *api.World) {
					for j := range w.People {
						w.People[j].Runs = nil
					}
					w.Conf.Runs, w.People[i].Runs = room, someone(0, 3, 0, many).Runs
				}, many <= room})
			}
		}
		for at := range 4 {
			for n := -1; n <= 4; n++ {
				for field, do := range []func(r *api.Run){func(r *api.Run) { r.Proto = n }, func(r *api.Run) { r.Role = n }, func(r *api.Run) { r.State = n }} {
					turns = append(turns, turn{fmt.Sprint("a run of ", i, " at ", at, ", ", n, " in ", field), func(w *api.World) {
						w.People[i].Runs = someone(0, 3, 0, 4).Runs
						do(&w.People[i].Runs[at])
					}, n >= 1 && n <= []int{2, 2, 3}[field]})
				}
			}
		}
	}
	turns = append(turns, turn{"a run twice", func(w *api.World) { w.People[1].Runs = []api.Run{run(1), run(1)} }, true})
	checkTurns(t, turns)
}

// P12.1: Next, registers, and what may be as it will.
func TestFormOfTheRest(t *testing.T) {
	var turns []turn
	for _, next := range []int{math.MinInt, math.MinInt32, -2, -1, 0, 1, 6, 7, 1 << 16, 1<<20 - 1, 1 << 20, 1<<20 + 1, 1<<20 + 2, 1 << 21, 1 << 31, 1 << 32, 1<<32 + 1, math.MaxInt} {
		turns = append(turns, turn{fmt.Sprint("Next ", next), func(w *api.World) { w.Draws.Next = next }, next >= 0 && next <= 1<<20})
	}
	for regs := 1; regs <= 8; regs++ {
		for many := range 11 {
			turns = append(turns, turn{fmt.Sprint(many, " registers for ", regs), func(w *api.World) { w.Conf.Regs, w.Regs = regs, make([]row, many) }, many == regs})
		}
	}
	for i := range 2 {
		for _, long := range []int{0, 1, 63, 64, 65, 66, 128, 256, 1 << 16} {
			turns = append(turns, turn{fmt.Sprint("the register ", i, " of ", long, " words"), func(w *api.World) { w.Regs[i] = make(row, long) }, long <= 64})
		}
	}
	checkTurns(t, append(turns,
		turn{"a long list of draws", func(w *api.World) { w.Draws.List = make(row, 1000) }, true},
		turn{"Next beyond, and a list that is longer still", func(w *api.World) { w.Draws = api.Draws{List: make(row, 1<<20+9), Next: 1<<20 + 1} }, false},
		turn{"a long log", func(w *api.World) { w.Log = make([]api.Event, 1000) }, true},
		turn{"many leaks", func(w *api.World) { w.Leaks = make([]api.Leak, 1000) }, true},
		turn{"no draws, log, leaks", func(w *api.World) { w.Draws, w.Log, w.Leaks = api.Draws{}, nil, nil }, true},
	))
}

// P12.1: what stands behind a list's length isn't in the world.
func TestRoomBehindIsNotInTheWorld(t *testing.T) {
	w := ready()
	long := make(row, 65)
	w.Box.Sealed = append(w.Box.Sealed, w.Box.Sealed[0], api.Sealed{Plain: long})[:2]
	w.Net.Grams = append(w.Net.Grams, api.Gram{Words: long})[:3]
	w.Net.Seen = append(w.Net.Seen, long)[:4]
	w.People = append(w.People, api.Person{Name: 9})[:4]
	w.People[3].Used = append(w.People[3].Used, w.People[3].Used...)[:2]
	w.People[3].Runs = append(w.People[3].Runs, api.Run{})[:2]
	w.Regs = append(w.Regs, long)[:2]
	w.Regs[0] = long[:64]
	if !desk.Form(w) {
		t.Error("Form looks behind a length")
	}
	if q := desk.Person(w, 9); !samePerson(q, api.Person{}) {
		t.Error(q)
	}
	checkWith(t, w, someone(9, 1, 1, 1))
	if _, ok := desk.Open(w, w.Box.Sealed[:4][3].Key, w.Box.Sealed[:4][3].Label, 0); ok {
		t.Error("Open looks behind a length")
	}
}

// P12.1: Room of all rooms and numbers of entries and frames: just as many as there is room for, and no more.
func TestRoom(t *testing.T) {
	tried := []int{0, 1, 2, 3, 4, 5, 61, 62, 63, 64, 65, 66, 127, 128, 1 << 16, math.MaxInt32, 1 << 32, math.MaxInt - 65, math.MaxInt - 64, math.MaxInt - 63, math.MaxInt - 2, math.MaxInt - 1, math.MaxInt}
	for _, room := range []int{0, 1, 2, 5, 63, 64} {
		for _, other := range []int{0, 1, 2, 64} {
			for _, had := range []int{0, 1, 2, 5, 62, 63, 64} {
				for _, onTheWay := range []int{0, 1, 2, 63, 64} {
					if had > room || onTheWay > other {
						continue
					}
					w := least()
					w.Conf.Box, w.Conf.Net = room, other
					w.Box = api.Box{Room: room, Sealed: greatest().Box.Sealed[:had]}
					w.Net = api.Net{Room: other, Grams: greatest().Net.Grams[:onTheWay], Seen: greatest().Net.Seen}
					for _, boxes := range append(tried, room-had) {
						for _, frames := range append(tried, other-onTheWay) {
							if want := boxes <= room-had && frames <= other-onTheWay; desk.Room(w, boxes, frames) != want {
								t.Fatalf("Room of %d entries in %d, %d frames in %d, for %d and %d: %v", had, room, onTheWay, other, boxes, frames, !want)
							}
						}
					}
				}
			}
		}
	}
}

// P12.1: Room, written out.
func TestRoomWrittenOut(t *testing.T) {
	for _, x := range []struct {
		boxes, frames int
		want          bool
	}{{0, 0, true}, {3, 3, true}, {3, 0, true}, {0, 3, true}, {4, 0, false}, {0, 4, false}, {4, 3, false}, {3, 4, false}, {2, 1, true}, {math.MaxInt, 0, false}, {0, math.MaxInt, false}, {math.MaxInt, math.MaxInt, false}, {math.MaxInt - 1, 0, false}, {0, math.MaxInt - 2, false}} {
		if desk.Room(ready(), x.boxes, x.frames) != x.want {
			t.Error(x)
		}
	}
}

// P12.2: Draw answers the draws in order, and changes nothing else.
func TestDraw(t *testing.T) {
	for _, w := range worlds() {
		for range 9 {
			want := deep(w)
			want.Draws.Next++
			wantWord := nth(w.Draws.List, w.Draws.Next)
			v, word := desk.Draw(w)
			if word != wantWord || !sameWorld(v, want) {
				t.Fatalf("Draw from %d = %d, want %d: %+v, want %+v", w.Draws.Next, word, wantWord, v, want)
			}
			if w = v; w.Draws.Next > 1<<20 {
				break
			}
		}
	}
	w := ready()
	for i, want := range []uint32{1<<31 | 24, 1<<31 | 25, 1<<31 | 26, 3<<30 | 6, 3<<30 | 7} {
		v, word := desk.Draw(w)
		if word != want || v.Draws.Next != 4+i || !desk.Form(v) {
			t.Error(i, word, v.Draws)
		}
		w = v
	}
	w.Draws.Next = 1 << 20
	if v, word := desk.Draw(w); word != 1<<31|1<<30|1<<20 || v.Draws.Next != 1<<20+1 {
		t.Error(word, v.Draws)
	}
}

// whole answers a part with all the words that there are, which are unlike each other, and those of another number.
func whole(n uint32) api.Part {
	return api.Part{N: n + 1, M: n + 2, A: n + 3, B: n + 4, K: n + 5, T: n + 6, H: n + 7}
}

// P12.2: the chapter's example.
func TestExample(t *testing.T) {
	w, h, e := desk.Seal(ready(), 5, api.LabelEcho, api.Part{N: 6})
	if e != api.OK || h != 1<<31|24 {
		t.Fatal(h, e)
	}
	if p, ok := desk.Open(w, 5, api.LabelEcho, h); !ok || p != (api.Part{N: 6}) {
		t.Error(p, ok)
	}
}

// P12.2: Seal and Open of a part of each label, written out.
func TestSealWrittenOut(t *testing.T) {
	for _, x := range []struct {
		label uint32
		p     api.Part
		l     row
	}{
		{api.LabelGrant, api.Part{N: 1, B: 2, K: 3, T: 4, H: 5}, row{1, 2, 3, 4, 5}},
		{api.LabelTicket, api.Part{K: 1, A: 2, T: 3}, row{1, 2, 3}},
		{api.LabelEcho, api.Part{N: 1}, row{1}},
		{api.LabelBack, api.Part{N: 2}, row{2}},
		{api.LabelFirst, api.Part{N: 1, M: 2, A: 3, B: 4}, row{1, 2, 3, 4}},
		{api.LabelSecond, api.Part{N: 5, M: 6, A: 7, B: 8}, row{5, 6, 7, 8}},
		{api.LabelShareB, api.Part{N: 1, K: 2}, row{1, 2}},
		{api.LabelShareA, api.Part{N: 3, K: 4}, row{3, 4}},
	} {
		w, h, e := desk.Seal(ready(), 77, x.label, x.p)
		if e != api.OK || h != 1<<31|24 || w.Draws.Next != 4 || len(w.Box.Sealed) != 3 || !sameEntry(w.Box.Sealed[2], api.Sealed{Handle: h, Key: 77, Label: x.label, Plain: x.l}) {
			t.Error(x.label, h, e, w.Box)
		}
		if p, ok := desk.Open(w, 77, x.label, h); !ok || p != x.p {
			t.Error(x.label, p, ok)
		}
	}
}

// P12.2: parts of each label, of whatever words and under whatever keys, are sealed; nothing else in the world changes; they are opened by just their key, label and handle.
func TestSealedIsOpened(t *testing.T) {
	for _, w := range []api.World{ready(), worlds()[3]} {
		for _, label := range labels {
			for _, key := range edges {
				for _, n := range append(slices.Clone(edges), 100) {
					_, p := partOf(label, whole(n))
					v, e := checkSeal(t, w, key, label, p)
					handle := nth(w.Draws.List, w.Draws.Next)
					if e != api.OK || !checkOpen(t, v, key, label, handle) {
						t.Fatal(label, key, n, e)
					}
					if q, ok := desk.Open(v, key, label, handle); !ok || q != p {
						t.Fatal(label, key, n, q, ok)
					}
				}
			}
			_, p := partOf(label, whole(40))
			v, _ := checkSeal(t, w, 5, label, p)
			handle := nth(w.Draws.List, w.Draws.Next)
			for bit := range 32 {
				for _, x := range [][3]uint32{{5 ^ 1<<bit, label, handle}, {5, label ^ 1<<bit, handle}, {5, label, handle ^ 1<<bit}} {
					if checkOpen(t, v, x[0], x[1], x[2]) {
						t.Fatal(label, x)
					}
				}
			}
			for _, other := range append(slices.Clone(edges), labels...) {
				for _, x := range [][3]uint32{{other, label, handle}, {5, other, handle}, {5, label, other}, {handle, label, 5}, {label, 5, handle}} {
					if want := x == [3]uint32{5, label, handle}; checkOpen(t, v, x[0], x[1], x[2]) != want {
						t.Fatal(label, x)
					}
				}
			}
		}
	}
}

// others are labels that there aren't.
var others = row{0, 1, 10, 11, 15, 16, 18, 255, 256, 258, 1<<16 + 3, 1 << 31, 1<<31 + 2, math.MaxUint32}

// P12.2: parts that may not be are refused: with a word that the label hasn't, and of no label; nothing is drawn then.
func TestSealOfWhatMayNotBe(t *testing.T) {
	alone := []api.Part{{N: 1}, {M: 1}, {A: 1}, {B: 1}, {K: 1}, {T: 1}, {H: 1}, {N: 1 << 31}, {M: 1 << 31}, {A: 1 << 31}, {B: 1 << 31}, {K: 1 << 31}, {T: 1 << 31}, {H: 1 << 31}, {}, whole(0)}
	for _, w := range worlds() {
		for _, label := range append(slices.Clone(labels), others...) {
			for _, p := range alone {
				_, e := checkSeal(t, w, 9, label, p)
				if _, may := partOf(label, p); p != may && e != api.ErrArg {
					t.Fatal(label, p, e)
				}
			}
		}
		for _, label := range others {
			if v, h, e := desk.Seal(w, 9, label, api.Part{}); e != api.ErrArg || h != 0 || !sameWorld(v, w) {
				t.Fatal(label, h, e)
			}
		}
	}
}

// crowded answers a world with so many entries in a box of that room, whose draw is the handle of the last one if it is to be there already.
func crowded(room, count int, again bool) api.World {
	w := ready()
	w.Conf.Box = room
	w.Box = api.Box{Room: room, Sealed: deep(greatest()).Box.Sealed[:count]}
	if again {
		w.Box.Sealed[count-1].Handle = 1<<31 | 24
	}
	return w
}

// P12.2: of several errors the first one is told: a part that may not be, a draw that is a handle already, no room; w comes back with it, and nothing is drawn.
func TestSealTellsTheFirstError(t *testing.T) {
	told := map[api.Errno]int{}
	for _, room := range []int{0, 1, 2, 5, 63, 64} {
		for count := range room + 1 {
			for _, again := range []bool{false, true} {
				if again && count == 0 {
					continue
				}
				w := crowded(room, count, again)
				for _, p := range []api.Part{{N: 3}, {N: 3, H: 1}} {
					want := api.OK
					switch {
					case p.H != 0:
						want = api.ErrArg
					case again:
						want = api.ErrReplay
					case count == room:
						want = api.ErrFull
					}
					v, e := checkSeal(t, w, 4, api.LabelBack, p)
					if told[e]++; e != want || e != api.OK && v.Draws.Next != 3 || e == api.OK && v.Draws.Next != 4 {
						t.Fatal(room, count, again, p, e, v.Draws.Next)
					}
				}
			}
		}
	}
	if len(told) != 4 || told[api.OK]*told[api.ErrArg]*told[api.ErrReplay]*told[api.ErrFull] == 0 {
		t.Error(told)
	}
	// A handle that was drawn twice is refused each time: the draw stays the next one.
	w := crowded(5, 2, true)
	for range 3 {
		if w, _ = checkSeal(t, w, 4, api.LabelBack, api.Part{N: 3}); w.Draws.Next != 3 {
			t.Fatal(w.Draws)
		}
	}
}

// P12.2: words that aren't a part's of the label aren't opened, though the key, the label and the handle are right.
func TestOpenOfWhatIsNoPart(t *testing.T) {
	for _, label := range append(slices.Clone(labels), others...) {
		for long := range 65 {
			for _, key := range []uint32{0, 7, math.MaxUint32} {
				w := ready()
				w.Box.Sealed[0] = api.Sealed{Handle: 31, Key: key, Label: label, Plain: words(long, 8)}
				l, _ := partOf(label, api.Part{})
				want := len(l) != 0 && len(l) == long
				if !desk.Form(w) || checkOpen(t, w, key, label, 31) != want {
					t.Fatal(label, long, key)
				}
				if p, ok := desk.Open(w, key, label, 31); ok && p == (api.Part{}) || !ok && p != (api.Part{}) {
					t.Fatal(label, long, key, p, ok)
				}
			}
		}
	}
	// A part of no words but 0 is opened all the same.
	w := ready()
	w.Box.Sealed[0] = api.Sealed{Label: api.LabelTicket, Plain: make(row, 3)}
	if p, ok := desk.Open(w, 0, api.LabelTicket, 0); !ok || p != (api.Part{}) {
		t.Error(p, ok)
	}
}

// messages answers messages of each Kind, and of no Kind, that have of all words a number's; but for whole, just those that their Kind has.
func messages(n uint32) []api.Msg {
	var l []api.Msg
	for kind := range uint32(12) {
		m := api.Msg{Kind: kind, Run: n + 1, A: n + 2, B: n + 3, Nonce: n + 4, Box: n + 5, More: n + 6}
		_, may := frameOf(m)
		l = append(l, m, may, api.Msg{Kind: kind})
	}
	return append(l, api.Msg{Kind: 256 + 4, Box: n}, api.Msg{Kind: 1<<31 + 4, Box: n}, api.Msg{Kind: math.MaxUint32, Box: n})
}

// P12.3: Send of messages of each Kind, to whatever names; of such as may not be ErrArg, also where the net is full.
func TestSend(t *testing.T) {
	full := ready()
	full.Conf.Net, full.Net.Room = 3, 3
	told := map[api.Errno]int{}
	for i, w := range append(worlds(), full) {
		for _, n := range []uint32{0, 100, 1 << 31, math.MaxUint32 - 3} {
			for _, m := range messages(n) {
				_, e := checkSend(t, w, n, m)
				told[e]++
				for _, to := range names() {
					if i == 0 {
						checkSend(t, w, to, m)
					}
				}
			}
		}
	}
	if len(told) != 3 || told[api.OK]*told[api.ErrArg]*told[api.ErrFull] == 0 {
		t.Error(told)
	}
}

// P12.3: Send, written out.
func TestSendWrittenOut(t *testing.T) {
	for _, x := range []struct {
		m api.Msg
		l row
	}{
		{api.Msg{Kind: api.NS1, A: 11, B: 12, Nonce: 13}, row{1, 1, 1, 3, 1, 11, 4, 1, 12, 5, 1, 13}},
		{api.Msg{Kind: api.NS2, Box: 14}, row{1, 1, 2, 6, 1, 14}},
		{api.Msg{Kind: api.NS3, Box: 15}, row{1, 1, 3, 6, 1, 15}},
		{api.Msg{Kind: api.NS4, Box: 9}, row{1, 1, 4, 6, 1, 9}},
		{api.Msg{Kind: api.NS5, Box: 16}, row{1, 1, 5, 6, 1, 16}},
		{api.Msg{Kind: api.OR1, Run: 17, A: 18, B: 19, Box: 20}, row{1, 1, 6, 2, 1, 17, 3, 1, 18, 4, 1, 19, 6, 1, 20}},
		{api.Msg{Kind: api.OR2, Run: 21, A: 22, B: 23, Box: 24, More: 25}, row{1, 1, 7, 2, 1, 21, 3, 1, 22, 4, 1, 23, 6, 1, 24, 7, 1, 25}},
		{api.Msg{Kind: api.OR3, Run: 26, Box: 27, More: 28}, row{1, 1, 8, 2, 1, 26, 6, 1, 27, 7, 1, 28}},
		{api.Msg{Kind: api.OR4, Run: 29, Box: 30}, row{1, 1, 9, 2, 1, 29, 6, 1, 30}},
	} {
		w, e := desk.Send(ready(), 44, x.m)
		if e != api.OK || len(w.Net.Grams) != 4 || len(w.Net.Seen) != 5 || w.Net.Room != 6 || !sameGram(w.Net.Grams[3], api.Gram{To: 44, Words: x.l}) || !slices.Equal(w.Net.Seen[4], x.l) {
			t.Error(x.m, e, w.Net)
		}
	}
}

// P12.3: a net takes frames as long as it has room; the one behind is refused, and w comes back.
func TestSendTillItIsFull(t *testing.T) {
	for _, room := range []int{0, 1, 2, 5, 63, 64} {
		w := least()
		w.Conf.Net, w.Net.Room = room, room
		for i := range room + 3 {
			m := api.Msg{Kind: api.OR4, Run: uint32(i), Box: 5}
			v, e := checkSend(t, w, uint32(i), m)
			if want := i >= room; want != (e == api.ErrFull) || desk.Room(w, 0, 1) == want {
				t.Fatal(room, i, e)
			}
			if _, e := desk.Send(w, 1, api.Msg{Kind: api.OR4, More: 1}); e != api.ErrArg {
				t.Fatal(room, i, e)
			}
			w = v
		}
		if len(w.Net.Grams) != room || len(w.Net.Seen) != room {
			t.Fatal(room, w.Net)
		}
	}
}

// P12.3: events stand in the log in order, whatever they are; nothing else changes.
func TestLog(t *testing.T) {
	for _, w := range worlds() {
		want := deep(w)
		for i := range 20 {
			e := event(i * 100)
			if i%5 == 4 {
				e = api.Event{}
			}
			want.Log = append(want.Log, e)
			if w = desk.Log(w, e); !sameWorld(w, want) || !desk.Form(w) {
				t.Fatalf("%+v, want %+v", w.Log, want.Log)
			}
		}
	}
	w := desk.Log(desk.Log(api.World{}, event(1)), event(2))
	if !slices.Equal(w.Log, []api.Event{event(1), event(2)}) {
		t.Error(w.Log)
	}
	if w = desk.Log(ready(), event(3)); !slices.Equal(w.Log, []api.Event{event(80), event(81), event(3)}) {
		t.Error(w.Log)
	}
}

// names answers names of people, and such as nobody has: those that would be somebody's if they were cut, or had a bit less.
func names() row {
	l := row{4, 5, 6, 7, 8, 9, 63, 64, 254, 255, math.MaxInt32, math.MaxUint32 - 1, math.MaxUint32}
	for i := range uint32(4) {
		l = append(l, i, 1<<8+i, 1<<16+i, 1<<31+i, 3<<30+i)
	}
	return l
}

// P12.3: each one is answered by the name, the server too; of nobody's name a zero one.
func TestPerson(t *testing.T) {
	for i, w := range worlds() {
		for _, name := range names() {
			var want api.Person
			if int(name) < len(w.People) {
				want = w.People[name]
			}
			if got := desk.Person(w, name); !samePerson(got, want) {
				t.Errorf("Person(%d) = %+v, want %+v, in the world %d", name, got, want, i)
			}
		}
	}
	if got := desk.Person(ready(), 2); !samePerson(got, someone(2, 74, 1, 3)) {
		t.Error(got)
	}
}

// P12.3: whoever is put back stands in the place of that name, and nothing else changes; who has no place isn't put anywhere.
func TestWith(t *testing.T) {
	for _, w := range worlds() {
		for _, name := range names() {
			for _, many := range []int{0, 1, 3} {
				v := checkWith(t, w, someone(name, 30, many, many))
				if int(name) >= len(w.People) && !sameWorld(v, w) {
					t.Fatal(name, many)
				}
			}
			checkWith(t, w, api.Person{Name: name})
			checkWith(t, w, api.Person{Name: name, Clock: 1})
			checkWith(t, w, api.Person{Name: name, Corrupt: true})
			if p := desk.Person(w, name); p.Name == name && !sameWorld(checkWith(t, w, p), w) {
				t.Fatal(name)
			}
		}
	}
	w := ready()
	for name := range uint32(4) {
		p := desk.Person(w, name)
		p.Clock, p.Used = p.Clock+1, append(p.Used, 5)
		v := desk.With(w, p)
		for other := range uint32(4) {
			want := ready().People[other]
			if other == name {
				want.Clock, want.Used = want.Clock+1, append(want.Used, 5)
			}
			if q := desk.Person(v, other); !samePerson(q, want) || !samePerson(v.People[other], want) {
				t.Error(name, other, q, want)
			}
		}
		if !desk.Form(v) {
			t.Error(name)
		}
	}
}

// P12.2, P12.3: one behind the other, in whatever order, each step does what the chapter's words tell.
func TestManySteps(t *testing.T) {
	state, told := uint32(1), map[api.Errno]int{}
	draw := func(n int) int {
		state = state*1664525 + 1013904223
		return int(state>>8) % n
	}
	for range 60 {
		w := ready()
		for range 40 {
			errno := api.OK
			switch label := uint32(1 + draw(10)); draw(7) {
			case 0:
				w, _ = desk.Draw(w)
			case 1, 2:
				p := whole(state)
				if draw(8) != 0 {
					_, p = partOf(label, p)
				}
				w, errno = checkSeal(t, w, uint32(draw(3)), label, p)
			case 3:
				l := messages(state)
				w, errno = checkSend(t, w, uint32(draw(5)), l[draw(len(l))])
			case 4:
				w = desk.Log(w, event(draw(99)))
			case 5:
				w = checkWith(t, w, someone(uint32(draw(6)), draw(99), draw(4), draw(5)))
			case 6:
				for _, s := range w.Box.Sealed {
					checkOpen(t, w, uint32(draw(3)), label, s.Handle)
					// All but the one without words are parts of their labels.
					if len(s.Plain) != 0 && !checkOpen(t, w, s.Key, s.Label, s.Handle) {
						t.Fatal(s)
					}
				}
			}
			if told[errno]++; !desk.Form(w) {
				t.Fatalf("%+v", w)
			}
		}
	}
	if len(told) != 3 || told[api.OK]*told[api.ErrArg]*told[api.ErrFull] == 0 {
		t.Error(told)
	}
}

// call is one that answers a world.
type call struct {
	name string
	do   func(w api.World) api.World
}

// calls answers all of a desk's calls that answer a world, such as are refused among them.
func calls() []call {
	l := []call{
		{"Draw", func(w api.World) api.World { w, _ = desk.Draw(w); return w }},
		{"Log", func(w api.World) api.World { return desk.Log(w, event(5)) }},
		{"Seal of all words", func(w api.World) api.World { w, _, _ = desk.Seal(w, 4, 3, whole(3)); return w }},
	}
	for _, label := range []uint32{1, 2, 3, 4, 7, 9, 10} {
		_, p := partOf(label, whole(label))
		l = append(l, call{fmt.Sprint("Seal ", label), func(w api.World) api.World { w, _, _ = desk.Seal(w, 4, label, p); return w }})
	}
	for kind := range uint32(11) {
		_, m := frameOf(api.Msg{Kind: kind, Run: 1, A: 2, B: 3, Nonce: 4, Box: 5, More: 6})
		l = append(l, call{fmt.Sprint("Send ", m), func(w api.World) api.World { w, _ = desk.Send(w, 2, m); return w }})
	}
	for _, name := range []uint32{0, 1, 2, 3, 4, 256, math.MaxUint32} {
		l = append(l, call{fmt.Sprint("With ", name), func(w api.World) api.World { return desk.With(w, someone(name, 6, 2, 3)) }},
			call{fmt.Sprint("With Person ", name), func(w api.World) api.World { return desk.With(w, desk.Person(w, name)) }})
	}
	return l
}

// fillNew fills the lists of an answer that didn't stay as they were: such as have one more, or another person.
func fillNew(v, w api.World) {
	if len(v.Box.Sealed) != len(w.Box.Sealed) {
		fill(v.Box.Sealed, api.Sealed{Handle: 6})
	}
	if len(v.Net.Grams) != len(w.Net.Grams) {
		fill(v.Net.Grams, api.Gram{To: 6})
		fill(v.Net.Seen, row{6})
	}
	if len(v.Log) != len(w.Log) {
		fill(v.Log, event(6))
	}
	if !slices.EqualFunc(v.People, w.People, samePerson) {
		fill(v.People, api.Person{Name: 66})
	}
}

// P12.4: no call changes a world, nor what stands ahead of its lists and in the room behind them; a write into a list that an answer has anew is seen neither in the world nor in another answer.
func TestHandedInStays(t *testing.T) {
	for i, world := range worlds() {
		for _, x := range calls() {
			w, h := roomy(world)
			one, two := x.do(w), x.do(w)
			want := deep(one)
			if !h.isAsItWas() || !sameWorld(w, world) {
				t.Fatal(i, x.name, "changes what is handed in")
			}
			fillNew(one, w)
			if !h.isAsItWas() || !sameWorld(w, world) {
				t.Fatal(i, x.name, "a write into an answer is seen in what was handed in")
			}
			if !sameWorld(two, want) {
				t.Fatal(i, x.name, "a write into one answer is seen in another one")
			}
			fillNew(two, w)
			if !sameWorld(x.do(w), want) {
				t.Fatal(i, x.name, "a write into one answer is seen in a later one")
			}
		}
	}
}

// P12.4: what only looks at a world leaves it as it is, too.
func TestLookedAtStays(t *testing.T) {
	for i, world := range worlds() {
		w, h := roomy(world)
		desk.May(w.Conf)
		desk.Form(w)
		desk.Room(w, 3, 4)
		for _, name := range names() {
			desk.Person(w, name)
		}
		for _, s := range w.Box.Sealed {
			for _, label := range append(slices.Clone(labels), s.Label) {
				desk.Open(w, s.Key, label, s.Handle)
			}
		}
		if !h.isAsItWas() || !sameWorld(w, world) {
			t.Error(i)
		}
	}
}

// P12.4: a person that is answered, and one that is put back, shares nothing with the world: neither with its row nor with the lists of the one who stands there.
func TestPersonsAreApart(t *testing.T) {
	for i, world := range worlds() {
		for name := range world.People {
			w, h := roomy(world)
			p := desk.Person(w, uint32(name))
			fill(p.Used, 6)
			fill(p.Runs, run(6))
			if !h.isAsItWas() {
				t.Fatal(i, name, "a write behind Person")
			}
			for _, many := range []int{0, 1, 3} {
				mine := &hall{}
				p := moved(mine, someone(uint32(name), 6, many, many))
				v, u := desk.With(w, p), desk.With(w, p)
				want := deep(v)
				fill(v.People[name].Used, 6)
				fill(v.People[name].Runs, run(6))
				if !mine.isAsItWas() || !h.isAsItWas() || !sameWorld(u, want) {
					t.Fatal(i, name, many, "a write into an answer of With")
				}
				fill(p.Used, 6)
				fill(p.Runs, run(6))
				if !sameWorld(u, want) {
					t.Fatal(i, name, many, "a write into the one who was handed in to With")
				}
			}
		}
	}
}

// P12.4: answers of one world go on apart: what is done in one isn't done in another.
func TestAnswersGoOnApart(t *testing.T) {
	for i, world := range worlds()[:3] {
		for _, x := range calls() {
			w, _ := roomy(world)
			one := x.do(w)
			if one.Draws.Next > 1<<20 {
				continue
			}
			want := deep(one)
			for _, y := range calls() {
				two := x.do(w)
				fillNew(y.do(one), one)
				fillNew(y.do(two), two)
				if !sameWorld(w, world) || !sameWorld(one, want) || !sameWorld(two, want) {
					t.Fatal(i, x.name, y.name)
				}
			}
		}
	}
}

// P12.4: the lists that answers have anew don't change when those handed in do.
func TestLaterChangeOfTheWorld(t *testing.T) {
	for room := range 3 {
		w := ready()
		// Once there is no room behind the lists, then there is.
		w.Box.Sealed, w.Net.Grams, w.Net.Seen = slices.Grow(w.Box.Sealed, room), slices.Grow(w.Net.Grams, room), slices.Grow(w.Net.Seen, room)
		w.Log, w.People = slices.Grow(w.Log, room), slices.Grow(w.People, room)
		sealed, _, _ := desk.Seal(w, 4, api.LabelBack, api.Part{N: 5})
		sent, _ := desk.Send(w, 2, api.Msg{Kind: api.NS4, Box: 5})
		logged, put := desk.Log(w, event(5)), desk.With(w, someone(1, 6, 2, 3))
		answered := api.World{Box: sealed.Box, Net: sent.Net, Log: logged.Log, People: []api.Person{put.People[1], desk.Person(w, 0), desk.Person(w, 3)}}
		want := deep(answered)
		for _, p := range w.People {
			fill(p.Used, 6)
			fill(p.Runs, run(6))
		}
		fill(w.Box.Sealed, api.Sealed{Handle: 6})
		fill(w.Net.Grams, api.Gram{To: 6})
		fill(w.Net.Seen, row{6})
		fill(w.Log, event(6))
		fill(w.People, api.Person{Name: 66})
		if !sameWorld(answered, want) {
			t.Errorf("%+v, want %+v", answered, want)
		}
	}
}

// Rule 8: what is answered hangs on what is handed in now, and on no call ahead of it.
func TestNothingIsKept(t *testing.T) {
	for _, x := range calls() {
		want := deep(x.do(ready()))
		for _, y := range calls() {
			y.do(greatest())
			y.do(least())
		}
		if got := x.do(ready()); !sameWorld(got, want) {
			t.Fatal(x.name, got, want)
		}
	}
}

// odd answers worlds that haven't their form.
func odd() []api.World {
	var l []api.World
	for _, room := range []int{math.MinInt, -1, 0, 1, 65, math.MaxInt} {
		w := ready()
		w.Conf = api.Conf{Window: math.MaxUint32, People: room, Box: room, Used: room, Runs: room, Net: room, Regs: room}
		w.Box.Room, w.Net.Room, w.Draws.Next = room, room, room
		v := ready()
		v.Box.Room, v.Net.Room, v.Draws.Next = room, room, room
		l = append(l, w, v)
	}
	huge := greatest()
	huge.Net.Seen, huge.Regs, huge.People = make([]row, 1<<16), make([]row, 1<<16), make([]api.Person, 1<<16)
	huge.Box.Sealed, huge.Net.Grams = make([]api.Sealed, 1<<16), make([]api.Gram, 1<<16)
	used := greatest()
	used.People[6].Used, used.People[6].Runs = words(1<<20, 1), make([]api.Run, 1<<20)
	return append(l, api.World{}, huge, used)
}

// P1 of all layers: calls end, and don't panic, at worlds too of which nothing is promised but Form.
func TestEveryCallEnds(t *testing.T) {
	for i, w := range odd() {
		if desk.Form(w) {
			t.Error(i)
		}
		for _, n := range []int{math.MinInt, -1, 0, 1, math.MaxInt} {
			desk.Room(w, n, n)
		}
		for _, x := range calls() {
			x.do(w)
		}
		for _, label := range append(slices.Clone(labels), others...) {
			desk.Open(w, 41, label, 31)
			desk.Open(w, 0, label, 0)
		}
		for _, name := range names() {
			desk.Person(w, name)
		}
	}
}
