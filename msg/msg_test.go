package msg_test

import (
	"math"
	"slices"
	"testing"

	"chamberlain/api"
	"chamberlain/msg"
	"chamberlain/wire"
)

type row = []uint32

// parts tells, at a Kind, the tags of the words that the chapter gives its messages, in the frame's order.
var parts = [][]uint32{
	1: {3, 4, 5},
	2: {6},
	3: {6},
	4: {6},
	5: {6},
	6: {2, 3, 4, 6},
	7: {2, 3, 4, 6, 7},
	8: {2, 6, 7},
	9: {2, 6},
}

// noKinds are words that are no Kind; some would be one, if a bit of them were lost.
var noKinds = row{0, 10, 11, 15, 16, 255, 257, 1<<16 + 1, 1<<31 - 1, 1 << 31, 1<<31 + 1, 1<<31 + 9, math.MaxUint32}

// samples are words that a message may have: small, great, those of tags and Kinds, those of draws.
var samples = row{0, 1, 2, 6, 9, 10, 255, 256, 1<<31 - 1, 1 << 31, 1<<31 + 1, math.MaxUint32}

// with answers the message with another word at a tag.
func with(m api.Msg, tag, w uint32) api.Msg {
	switch tag {
	case 2:
		m.Run = w
	case 3:
		m.A = w
	case 4:
		m.B = w
	case 5:
		m.Nonce = w
	case 6:
		m.Box = w
	case 7:
		m.More = w
	}
	return m
}

// made answers the message of a Kind whose words are 100 and the tag, and its frame.
func made(kind uint32) (api.Msg, row) {
	m, l := api.Msg{Kind: kind}, row{1, 1, kind}
	for _, tag := range parts[kind] {
		m = with(m, tag, 100+tag)
		l = append(l, tag, 1, 100+tag)
	}
	return m, l
}

// isMessage asks, word by word, whether a row is a message's frame.
func isMessage(l row) bool {
	if len(l) < 3 || l[0] != 1 || l[1] != 1 || l[2] < 1 || l[2] > 9 {
		return false
	}
	tags := parts[l[2]]
	if len(l) != 3+3*len(tags) {
		return false
	}
	for i, tag := range tags {
		if l[3+3*i] != tag || l[4+3*i] != 1 {
			return false
		}
	}
	return true
}

// fault answers what Get has to tell of a row.
func fault(l row) api.Errno {
	_, e := wire.Get(l)
	switch {
	case e != api.OK:
		return e
	case len(l) < 3 || l[0] != 1 || l[1] != 1 || l[2] < 1 || l[2] > 9:
		return api.ErrTag
	case !isMessage(l):
		return api.ErrForm
	}
	return api.OK
}

// checkGet holds what Get and Kind answer of a row against the chapter's words.
func checkGet(t *testing.T, l row) {
	t.Helper()
	m, e := msg.Get(l)
	if want := fault(l); e != want {
		t.Fatalf("Get(%v): %d, want %d", l, e, want)
	}
	if e != api.OK {
		if m != (api.Msg{}) || msg.Kind(l) != 0 {
			t.Fatalf("Get(%v) = %v beside an error, Kind %d", l, m, msg.Kind(l))
		}
		return
	}
	if again, e := msg.Put(m); !msg.May(m) || e != api.OK || !slices.Equal(again, l) || msg.Kind(l) != l[2] {
		t.Fatalf("Get(%v) = %v, which is put as %v, %d", l, m, again, e)
	}
}

// refuses asks that May and Put refuse a message.
func refuses(t *testing.T, m api.Msg) {
	t.Helper()
	if l, e := msg.Put(m); msg.May(m) || len(l) != 0 || e != api.ErrArg {
		t.Errorf("%+v: May %v, Put %v, %d", m, msg.May(m), l, e)
	}
}

// frames are messages of each Kind and their frames, written out.
var frames = []struct {
	m api.Msg
	l row
}{
	{api.Msg{Kind: 1, A: 1, B: 2, Nonce: 1<<31 + 9}, row{1, 1, 1, 3, 1, 1, 4, 1, 2, 5, 1, 1<<31 + 9}},
	{api.Msg{Kind: 2, Box: 8}, row{1, 1, 2, 6, 1, 8}},
	{api.Msg{Kind: 3, Box: 3}, row{1, 1, 3, 6, 1, 3}},
	{api.Msg{Kind: 4, Box: 9}, row{1, 1, 4, 6, 1, 9}},
	{api.Msg{Kind: 5, Box: 1 << 31}, row{1, 1, 5, 6, 1, 1 << 31}},
	{api.Msg{Kind: 6, Run: 5, A: 1, B: 2, Box: 8}, row{1, 1, 6, 2, 1, 5, 3, 1, 1, 4, 1, 2, 6, 1, 8}},
	{api.Msg{Kind: 7, Run: 5, A: 1, B: 2, Box: 8, More: 9}, row{1, 1, 7, 2, 1, 5, 3, 1, 1, 4, 1, 2, 6, 1, 8, 7, 1, 9}},
	{api.Msg{Kind: 8, Run: 5, Box: 8, More: 9}, row{1, 1, 8, 2, 1, 5, 6, 1, 8, 7, 1, 9}},
	{api.Msg{Kind: 9, Run: 5, Box: 8}, row{1, 1, 9, 2, 1, 5, 6, 1, 8}},
	{api.Msg{Kind: 1}, row{1, 1, 1, 3, 1, 0, 4, 1, 0, 5, 1, 0}},
	{api.Msg{Kind: 9}, row{1, 1, 9, 2, 1, 0, 6, 1, 0}},
	{api.Msg{Kind: 8, Run: math.MaxUint32, Box: math.MaxUint32, More: math.MaxUint32}, row{1, 1, 8, 2, 1, math.MaxUint32, 6, 1, math.MaxUint32, 7, 1, math.MaxUint32}},
}

// P3.1, P3.2: messages of each Kind, and their frames.
func TestFrames(t *testing.T) {
	for i, x := range frames {
		if l, e := msg.Put(x.m); !msg.May(x.m) || e != api.OK || !slices.Equal(l, x.l) {
			t.Error(i, msg.May(x.m), l, e)
		}
		if m, e := msg.Get(x.l); m != x.m || e != api.OK {
			t.Error(i, m, e)
		}
		if kind := msg.Kind(x.l); kind != x.m.Kind {
			t.Error(i, kind)
		}
	}
}

// P3.1: of no Kind is a message that may be, whatever else it has.
func TestNoKindMayBe(t *testing.T) {
	for _, kind := range noKinds {
		refuses(t, api.Msg{Kind: kind})
		for tag := uint32(2); tag <= 7; tag++ {
			refuses(t, with(api.Msg{Kind: kind}, tag, 1))
		}
		refuses(t, api.Msg{Kind: kind, Run: 1, A: 2, B: 3, Nonce: 4, Box: 5, More: 6})
	}
}

// P3.1: the words that a Kind has may be any; one that it hasn't is 0, or the message may not be.
func TestWordsOfKinds(t *testing.T) {
	for kind := uint32(1); kind <= 9; kind++ {
		whole, _ := made(kind)
		for tag := uint32(2); tag <= 7; tag++ {
			for _, w := range samples {
				for _, m := range []api.Msg{with(whole, tag, w), with(api.Msg{Kind: kind}, tag, w)} {
					if w != 0 && !slices.Contains(parts[kind], tag) {
						refuses(t, m)
						continue
					}
					if l, e := msg.Put(m); !msg.May(m) || e != api.OK || !isMessage(l) {
						t.Errorf("%+v: May %v, Put %v, %d", m, msg.May(m), l, e)
					}
				}
			}
		}
	}
}

// P3.2: ErrTag, if the first field doesn't tell a Kind, whatever stands behind it.
func TestGetNoKind(t *testing.T) {
	for _, l := range []row{
		nil, {}, {1, 0}, {1, 2, 2, 6}, {1, 2, 2, 2}, {1, 3, 2, 6, 1},
		{2, 1, 2}, {6, 1, 7}, {6, 1, 7, 1, 1, 2}, {255, 1, 2}, {2, 0}, {2, 2, 2, 2},
		{1, 0, 1, 1, 2, 6, 1, 7}, {6, 1, 7, 6, 1, 7}, {1, 1, 0}, {1, 1, 10}, {1, 1, 10, 6, 1, 7},
		{2, 1, 2, 6, 1, 7}, {1, 0, 6, 1, 7}, {1, 2, 2, 2, 6, 1, 7}, {2, 1, 2, 2, 0},
		slices.Repeat(row{1, 0}, 8), append(row{1, 16}, make(row, 16)...),
	} {
		if m, e := msg.Get(l); e != api.ErrTag || m != (api.Msg{}) || msg.Kind(l) != 0 {
			t.Errorf("Get(%v) = %v, %d", l, m, e)
		}
	}
	for _, kind := range noKinds {
		for _, rest := range []row{nil, {6, 1, 7}, {2, 1, 5, 6, 1, 8}, {3, 1, 1, 4, 1, 2, 5, 1, 9}, {1, 1, 2}} {
			l := append(row{1, 1, kind}, rest...)
			if m, e := msg.Get(l); e != api.ErrTag || m != (api.Msg{}) || msg.Kind(l) != 0 {
				t.Errorf("Get(%v) = %v, %d", l, m, e)
			}
		}
	}
}

// P3.2: ErrForm, if the fields behind the Kind's aren't just those of such a message.
func TestGetOtherFields(t *testing.T) {
	for _, l := range []row{
		{1, 1, 1}, {1, 1, 2}, {1, 1, 9},
		{1, 1, 1, 3, 1, 1, 4, 1, 2}, {1, 1, 1, 4, 1, 2, 5, 1, 9}, {1, 1, 1, 3, 1, 1, 5, 1, 9}, {1, 1, 9, 6, 1, 8}, {1, 1, 9, 2, 1, 5},
		{1, 1, 2, 6, 1, 7, 7, 1, 7}, {1, 1, 2, 2, 1, 5, 6, 1, 7}, {1, 1, 1, 3, 1, 1, 4, 1, 2, 5, 1, 9, 6, 1, 8}, {1, 1, 2, 6, 1, 7, 255, 0},
		{1, 1, 2, 6, 1, 7, 6, 1, 7}, {1, 1, 9, 2, 1, 5, 2, 1, 5, 6, 1, 8}, {1, 1, 2, 1, 1, 2, 6, 1, 7}, {1, 1, 2, 6, 1, 7, 1, 1, 2},
		{1, 1, 2, 7, 1, 7}, {1, 1, 2, 5, 1, 7}, {1, 1, 2, 8, 1, 7}, {1, 1, 2, 255, 1, 7}, {1, 1, 2, 1, 1, 7}, {1, 1, 2, 14, 1, 7},
		{1, 1, 9, 6, 1, 8, 2, 1, 5}, {1, 1, 1, 4, 1, 2, 3, 1, 1, 5, 1, 9}, {1, 1, 8, 2, 1, 5, 7, 1, 9, 6, 1, 8},
		{1, 1, 2, 6, 0}, {1, 1, 2, 6, 2, 7, 7}, {1, 1, 9, 2, 0, 6, 1, 8}, {1, 1, 9, 2, 2, 5, 5, 6, 1, 8}, {1, 1, 9, 2, 1, 5, 6, 2, 8, 0},
		{1, 1, 6, 6, 1, 8}, {1, 1, 8, 2, 1, 5, 6, 1, 8}, {1, 1, 9, 2, 1, 5, 6, 1, 8, 7, 1, 9},
	} {
		if m, e := msg.Get(l); e != api.ErrForm || m != (api.Msg{}) || msg.Kind(l) != 0 {
			t.Errorf("Get(%v) = %v, %d", l, m, e)
		}
	}
}

// P3.2: the error of reading the frame is told ahead of those of the message.
func TestGetNoFrame(t *testing.T) {
	_, whole := made(7)
	for _, x := range []struct {
		l    row
		want api.Errno
	}{
		{row{1}, api.ErrForm}, {row{0, 0}, api.ErrForm}, {row{1, 1}, api.ErrForm}, {row{256, 1, 2}, api.ErrForm},
		{row{1, 1, 2, 6, 1}, api.ErrForm}, {row{1, 1, 2, 6}, api.ErrForm}, {row{1, 1, 2, 0, 1, 7}, api.ErrForm}, {row{1, 1, 2, 256 + 6, 1, 7}, api.ErrForm},
		{row{1, 1, 2, 6, 1, 7, 1}, api.ErrForm}, {row{1, 1, 2, 6, 1<<31 + 1, 7}, api.ErrForm},
		// A frame's fault behind a first field that is none of a message's.
		{row{1, 1, 10, 9}, api.ErrForm}, {row{1, 1, 0, 6, 1}, api.ErrForm}, {row{6, 1, 7, 1}, api.ErrForm}, {row{1, 0, 9}, api.ErrForm}, {append(row{1, 17}, make(row, 17)...), api.ErrForm},
		// Nine fields, and words more than 64: be the first one of a Kind or not.
		{slices.Repeat(row{1, 0}, 9), api.ErrLong}, {slices.Repeat(row{1, 1, 2}, 9), api.ErrLong}, {append(slices.Clone(whole), 9, 0, 9, 0, 9, 0), api.ErrLong}, {append(slices.Clone(whole), 9, 0, 9, 0, 0), api.ErrLong},
		{append(slices.Clone(whole), 9, 0, 9, 0), api.ErrForm}, {append(slices.Clone(whole), 9, 0, 0), api.ErrForm},
		{make(row, 65), api.ErrLong}, {make(row, 64), api.ErrForm}, {append(slices.Clone(whole), make(row, 47)...), api.ErrLong}, {append(row{1, 1, 10}, make(row, 62)...), api.ErrLong}, {append(row{1, 1, 2, 6, 1, 7}, make(row, 100)...), api.ErrLong},
	} {
		if m, e := msg.Get(x.l); e != x.want || m != (api.Msg{}) || msg.Kind(x.l) != 0 {
			t.Errorf("Get(%v) = %v, %d, want %d", x.l, m, e, x.want)
		}
	}
}

// P3.3: what is put is read as it was, whatever words it has.
func TestPutIsRead(t *testing.T) {
	for kind := uint32(1); kind <= 9; kind++ {
		for shift := range len(samples) {
			for step := range len(samples) {
				m := api.Msg{Kind: kind}
				for _, tag := range parts[kind] {
					m = with(m, tag, samples[(shift+step*int(tag))%len(samples)])
				}
				l, e := msg.Put(m)
				if e != api.OK || !isMessage(l) {
					t.Fatalf("%+v: %v, %d", m, l, e)
				}
				if got, e := msg.Get(l); got != m || e != api.OK || msg.Kind(l) != kind {
					t.Fatalf("%+v: %v, read %v, %d", m, l, got, e)
				}
			}
		}
	}
}

// rows calls f with every row of n words that are each one of these.
func rows(n int, of row, f func(l row)) {
	l := make(row, n)
	var fill func(at int)
	fill = func(at int) {
		if at == n {
			f(l)
			return
		}
		for _, w := range of {
			l[at] = w
			fill(at + 1)
		}
	}
	fill(0)
}

// P3.2, P3.3: of all short rows, just the messages' frames are read.
func TestShortRows(t *testing.T) {
	for n := range 8 {
		rows(n, row{0, 1, 2, 5, 6, 10}, func(l row) { checkGet(t, l) })
	}
}

// P3.2, P3.3: of all tags in whatever order behind each Kind, just one order is read.
func TestTagsInAnyOrder(t *testing.T) {
	for kind := uint32(0); kind <= 10; kind++ {
		for n := range 6 {
			rows(n, row{1, 2, 3, 4, 5, 6, 7, 8}, func(tags row) {
				l := row{1, 1, kind}
				for _, tag := range tags {
					l = append(l, tag, 1, 100+tag)
				}
				checkGet(t, l)
			})
		}
	}
}

// P3.2, P3.3: a frame of each Kind with a field left out, put in, doubled, or turned about with another one.
func TestFieldsDisturbed(t *testing.T) {
	strange := []row{{9, 1, 7}, {6, 0}, {6, 2, 7, 7}, {1, 1, 2}, {2, 1, 0}, {3, 1, 0}, {4, 1, 0}, {5, 1, 0}, {6, 1, 0}, {7, 1, 0}, {255, 16, 0, 0, 0, 0, 0, 0, 0, 0, 0, 0, 0, 0, 0, 0, 0, 0}}
	for kind := uint32(1); kind <= 9; kind++ {
		_, whole := made(kind)
		fields := slices.Collect(slices.Chunk(whole, 3))
		for i := range fields {
			checkGet(t, slices.Concat(slices.Delete(slices.Clone(fields), i, i+1)...))
			for j := range fields {
				turned := slices.Clone(fields)
				turned[i], turned[j] = turned[j], turned[i]
				checkGet(t, slices.Concat(turned...))
				checkGet(t, slices.Concat(slices.Insert(slices.Clone(fields), j, fields[i])...))
			}
			for _, f := range strange {
				other := slices.Clone(fields)
				other[i] = f
				checkGet(t, slices.Concat(other...))
				checkGet(t, slices.Concat(slices.Insert(slices.Clone(fields), i, f)...))
				checkGet(t, slices.Concat(slices.Insert(slices.Clone(fields), i+1, f)...))
			}
		}
	}
}

// P3.2, P3.3: a frame of each Kind with one word changed, left out or put in, or cut off.
func TestWordsDisturbed(t *testing.T) {
	for kind := uint32(1); kind <= 9; kind++ {
		_, whole := made(kind)
		for at := range len(whole) + 1 {
			checkGet(t, whole[:at])
			checkGet(t, whole[at:])
			if at < len(whole) {
				checkGet(t, slices.Delete(slices.Clone(whole), at, at+1))
			}
			for _, w := range append(slices.Clone(samples), 3, 4, 5, 7, 8, 17) {
				checkGet(t, slices.Insert(slices.Clone(whole), at, w))
				if at < len(whole) {
					changed := slices.Clone(whole)
					changed[at] = w
					checkGet(t, changed)
				}
			}
		}
	}
}

// overwrite fills a row and the room behind its length.
func overwrite(l row, w uint32) {
	l = l[:cap(l)]
	for i := range l {
		l[i] = w
	}
}

// P3.4: the words that are read stay, those around them and in the room behind their length too.
func TestHandedInStays(t *testing.T) {
	for kind := uint32(1); kind <= 9; kind++ {
		m, l := made(kind)
		whole := slices.Concat(row{7, 1, 4}, l, row{6, 1, 9})
		was := slices.Clone(whole)
		for from := range len(whole) + 1 {
			for to := from; to <= len(whole); to++ {
				checkGet(t, whole[from:to])
			}
		}
		if got, e := msg.Get(whole[3 : 3+len(l)]); got != m || e != api.OK || msg.Kind(whole[3:3+len(l)]) != kind {
			t.Error(kind, got, e)
		}
		if !slices.Equal(whole, was) {
			t.Error(kind, whole)
		}
	}
}

// P3.4: a frame is new memory: what is written into one, or into its room, is seen in no other.
func TestAnsweredIsNewMemory(t *testing.T) {
	for kind := uint32(1); kind <= 9; kind++ {
		m, want := made(kind)
		one, _ := msg.Put(m)
		two, _ := msg.Put(m)
		overwrite(one, 77)
		_ = append(one, 88, 88, 88)
		three, _ := msg.Put(m)
		if !slices.Equal(two, want) || !slices.Equal(three, want) {
			t.Error(kind, two, three)
		}
		got, _ := msg.Get(two)
		overwrite(two, 66)
		again, _ := msg.Get(three)
		if got != m || again != m {
			t.Error(kind, got, again)
		}
	}
}

// P3.4, rule 8: what was read or put before doesn't hang on in a later answer.
func TestNothingIsKept(t *testing.T) {
	for _, x := range frames {
		for _, y := range frames {
			msg.Put(x.m)
			msg.Get(x.l)
			msg.Get(x.l[:len(x.l)-1])
			if l, e := msg.Put(y.m); !slices.Equal(l, y.l) || e != api.OK {
				t.Error(x.m, y.m, l, e)
			}
			if m, e := msg.Get(y.l); m != y.m || e != api.OK {
				t.Error(x.m, y.m, m, e)
			}
		}
	}
}
