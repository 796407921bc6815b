package wire_test

import (
	"math"
	"slices"
	"testing"

	"chamberlain/api"
	"chamberlain/wire"
)

type row = []uint32

// words answers n words, none of them like another.
func words(n int) row {
	l := make(row, n)
	for i := range l {
		l[i] = uint32(100 + i)
	}
	return l
}

// many answers n fields without words.
func many(n int) []api.Field {
	l := make([]api.Field, n)
	for i := range l {
		l[i] = wire.One(uint32(1 + i))
	}
	return l
}

// sized answers fields of so many words each.
func sized(sizes ...int) []api.Field {
	var l []api.Field
	for i, n := range sizes {
		l = append(l, wire.One(uint32(1+i), words(n)...))
	}
	return l
}

func sameField(a, b api.Field) bool {
	return a.Tag == b.Tag && slices.Equal(a.Data, b.Data)
}

func sameFields(a, b []api.Field) bool {
	return slices.EqualFunc(a, b, sameField)
}

// frame lays fields one behind the other, whether they may be or not.
func frame(fields ...api.Field) row {
	var l row
	for _, f := range fields {
		l = append(append(l, f.Tag, uint32(len(f.Data))), f.Data...)
	}
	return l
}

// P2.1: a field may be with a tag of 1 to 255, and 16 words at most.
func TestMay(t *testing.T) {
	for _, x := range []struct {
		tag  uint32
		n    int
		want bool
	}{
		{1, 0, true}, {1, 1, true}, {1, 15, true}, {1, 16, true}, {1, 17, false}, {1, 64, false},
		{2, 3, true}, {254, 16, true}, {255, 0, true}, {255, 16, true}, {255, 17, false},
		{0, 0, false}, {0, 1, false}, {0, 17, false}, {256, 0, false}, {256, 16, false}, {257, 1, false},
		{1<<31 + 1, 0, false}, {1<<16 + 1, 0, false}, {math.MaxUint32, 1, false},
	} {
		if got := wire.May(api.Field{Tag: x.tag, Data: words(x.n)}); got != x.want {
			t.Errorf("May of tag %d and %d words: %v", x.tag, x.n, got)
		}
	}
	if !wire.May(api.Field{Tag: 7, Data: make(row, 16, 40)}) {
		t.Error("the room behind the words is counted")
	}
	if !wire.May(api.Field{Tag: 7}) || wire.May(api.Field{}) {
		t.Error("nil words")
	}
}

// P2.1: One makes the field that it is told, one that may not be too.
func TestOne(t *testing.T) {
	for _, tag := range []uint32{0, 1, 9, 255, 256, api.DrawBit, math.MaxUint32} {
		for _, n := range []int{0, 1, 2, 16, 17, 70} {
			f := wire.One(tag, words(n)...)
			if f.Tag != tag || !slices.Equal(f.Data, words(n)) {
				t.Errorf("One of tag %d and %d words: %v", tag, n, f)
			}
		}
	}
	if f := wire.One(3, 9, 0, math.MaxUint32); f.Tag != 3 || !slices.Equal(f.Data, row{9, 0, math.MaxUint32}) {
		t.Error(f)
	}
}

// P2.1: Put lays tag, number and words of each field behind those of the one ahead of it.
func TestPut(t *testing.T) {
	for i, x := range []struct {
		fields []api.Field
		want   row
	}{
		{nil, nil},
		{[]api.Field{}, nil},
		{[]api.Field{wire.One(3, 9)}, row{3, 1, 9}},
		{[]api.Field{wire.One(1)}, row{1, 0}},
		{[]api.Field{{Tag: 255}}, row{255, 0}},
		{[]api.Field{wire.One(255, 0, math.MaxUint32), wire.One(1), wire.One(255, 3)}, row{255, 2, 0, math.MaxUint32, 1, 0, 255, 1, 3}},
		{[]api.Field{wire.One(2, 1), wire.One(1, 2)}, row{2, 1, 1, 1, 1, 2}},
		{many(8), row{1, 0, 2, 0, 3, 0, 4, 0, 5, 0, 6, 0, 7, 0, 8, 0}},
		{sized(16), append(row{1, 16}, words(16)...)},
		{sized(16, 16, 16, 8), frame(sized(16, 16, 16, 8)...)},
		{sized(6, 6, 6, 6, 6, 6, 6, 6), frame(sized(6, 6, 6, 6, 6, 6, 6, 6)...)},
	} {
		if l, e := wire.Put(x.fields...); !slices.Equal(l, x.want) || e != api.OK {
			t.Error(i, l, e)
		}
	}
}

// P2.1: ErrForm of a field that may not be, ErrLong of too many fields or words; ErrForm is first.
func TestPutRefuses(t *testing.T) {
	tag0, tag256, data17 := wire.One(0, 1), wire.One(256), wire.One(1, words(17)...)
	for i, x := range []struct {
		fields []api.Field
		want   api.Errno
	}{
		{[]api.Field{{}}, api.ErrForm},
		{[]api.Field{tag0}, api.ErrForm},
		{[]api.Field{tag256}, api.ErrForm},
		{[]api.Field{wire.One(math.MaxUint32)}, api.ErrForm},
		{[]api.Field{data17}, api.ErrForm},
		{[]api.Field{tag0, wire.One(1)}, api.ErrForm},
		{[]api.Field{wire.One(1), tag0, wire.One(1)}, api.ErrForm},
		{append(many(7), tag256), api.ErrForm},
		{many(9), api.ErrLong},
		{many(100), api.ErrLong},
		{sized(16, 16, 16, 9), api.ErrLong},
		{sized(9, 16, 16, 16), api.ErrLong},
		{sized(16, 16, 16, 16), api.ErrLong},
		{sized(6, 6, 6, 6, 6, 6, 6, 7), api.ErrLong},
		{sized(16, 16, 16, 16, 16, 16, 16, 16, 16), api.ErrLong},
		{append(many(8), tag0), api.ErrForm},
		{append(many(9), data17), api.ErrForm},
		{append(sized(16, 16, 16, 16), tag256), api.ErrForm},
		{append([]api.Field{tag256}, sized(16, 16, 16, 16)...), api.ErrForm},
		{append([]api.Field{tag0}, many(9)...), api.ErrForm},
		{sized(64), api.ErrForm},
	} {
		if l, e := wire.Put(x.fields...); len(l) != 0 || e != x.want {
			t.Errorf("%d: %v, %d, want %d", i, l, e, x.want)
		}
	}
}

// P2.2: the fields of which the words are the frame.
func TestGet(t *testing.T) {
	for i, x := range []struct {
		l    row
		want []api.Field
	}{
		{nil, nil}, {row{}, nil},
		{row{3, 1, 9}, []api.Field{{Tag: 3, Data: row{9}}}},
		{row{1, 0}, []api.Field{{Tag: 1}}},
		{row{255, 0, 1, 2, 0, math.MaxUint32, 255, 1, 1}, []api.Field{{Tag: 255}, {Tag: 1, Data: row{0, math.MaxUint32}}, {Tag: 255, Data: row{1}}}},
		{row{5, 1, 5, 5, 1, 5}, []api.Field{{Tag: 5, Data: row{5}}, {Tag: 5, Data: row{5}}}},
		{append(row{4, 16}, words(16)...), []api.Field{{Tag: 4, Data: words(16)}}},
		{frame(many(8)...), many(8)},
		{frame(sized(16, 16, 16, 8)...), sized(16, 16, 16, 8)},
	} {
		if fields, e := wire.Get(x.l); !sameFields(fields, x.want) || e != api.OK {
			t.Error(i, fields, e)
		}
	}
}

// P2.2: ErrForm of what no field is, ErrLong of too many words, and at the ninth field whatever it is.
func TestGetRefuses(t *testing.T) {
	eight := frame(many(8)...)
	full := frame(sized(16, 16, 16, 8)...)
	for i, x := range []struct {
		l    row
		want api.Errno
	}{
		{row{3, 1}, api.ErrForm},
		{row{1}, api.ErrForm}, {row{0}, api.ErrForm}, {row{256}, api.ErrForm},
		{row{0, 0}, api.ErrForm}, {row{0, 1, 1}, api.ErrForm},
		{row{256, 0}, api.ErrForm}, {row{257, 0}, api.ErrForm}, {row{math.MaxUint32, 1, 1}, api.ErrForm}, {row{api.DrawBit + 1, 0}, api.ErrForm},
		{append(row{1, 17}, words(17)...), api.ErrForm}, {row{1, 17}, api.ErrForm},
		{append(row{1, 16}, words(15)...), api.ErrForm}, {row{1, 2, 3}, api.ErrForm},
		{row{1, 1 << 31, 3}, api.ErrForm}, {row{1, 1<<31 + 1, 3}, api.ErrForm}, {row{1, 1<<16 + 1, 3}, api.ErrForm}, {row{1, math.MaxUint32, 3}, api.ErrForm}, {row{1, math.MaxUint32 - 1, 3}, api.ErrForm}, {row{1, 257, 3}, api.ErrForm},
		{row{1, 0, 2}, api.ErrForm}, {row{1, 1, 5, 2}, api.ErrForm}, {row{1, 1, 5, 0, 0}, api.ErrForm}, {row{1, 1, 5, 6, 1}, api.ErrForm}, {row{1, 1, 5, 6, 17}, api.ErrForm},
		{append(slices.Clone(eight), 1, 0), api.ErrLong},
		{append(slices.Clone(eight), 1, 1, 9), api.ErrLong},
		{append(slices.Clone(eight), 1), api.ErrLong},
		{append(slices.Clone(eight), 0, 0), api.ErrLong},
		{append(slices.Clone(eight), 256, 0), api.ErrLong},
		{append(slices.Clone(eight), 1, 17), api.ErrLong},
		{append(slices.Clone(eight), 1, 1), api.ErrLong},
		{append(frame(many(7)...), 0, 0, 1, 0), api.ErrForm},
		{append(frame(many(7)...), 8), api.ErrForm},
		{append(slices.Clone(full), 1), api.ErrLong},
		{append(slices.Clone(full), 1, 0), api.ErrLong},
		{append(row{0}, full...), api.ErrLong},
		{make(row, 65), api.ErrLong}, {make(row, 64), api.ErrForm}, {make(row, 1000), api.ErrLong},
		{frame(sized(16, 16, 16, 9)...), api.ErrLong},
	} {
		if fields, e := wire.Get(x.l); len(fields) != 0 || e != x.want {
			t.Errorf("%d: Get(%v) = %v, %d, want %d", i, x.l, fields, e, x.want)
		}
	}
}

// P2.2: a frame that is cut off behind any of its words, or has a word more, is none, but where a field ends.
func TestGetCutOff(t *testing.T) {
	fields := []api.Field{wire.One(1, 5, 6), wire.One(2), wire.One(255, words(16)...), wire.One(9, 0)}
	whole := frame(fields...)
	ends := map[int]int{}
	for n := range len(fields) + 1 {
		ends[len(frame(fields[:n]...))] = n
	}
	for n := range len(whole) + 1 {
		got, e := wire.Get(whole[:n])
		many, isEnd := ends[n]
		if isEnd && (e != api.OK || !sameFields(got, fields[:many])) {
			t.Error(n, got, e)
		}
		if !isEnd && (e != api.ErrForm || len(got) != 0) {
			t.Error(n, got, e)
		}
	}
	for w := range uint32(300) {
		if got, e := wire.Get(append(slices.Clone(whole), w)); e != api.ErrForm || len(got) != 0 {
			t.Error(w, got, e)
		}
	}
}

// rows calls f with every row of n words that are each one of these.
func rows(n int, of row, f func(l row)) {
	l := make(row, n)
	var fill func(at int)
	fill = func(at int) {
		if at == n {
			f(l)
			return
		}
		for _, w := range of {
			l[at] = w
			fill(at + 1)
		}
	}
	fill(0)
}

// P2.3: of all short rows, what is read is what makes that row, and what isn't a frame isn't read.
func TestOnlyFramesAreRead(t *testing.T) {
	of := row{0, 1, 2, 3, 255, 256}
	for n := range 7 {
		rows(n, of, func(l row) {
			fields, e := wire.Get(l)
			if e == api.OK {
				if !slices.ContainsFunc(fields, func(f api.Field) bool { return !wire.May(f) }) {
					if again, e := wire.Put(fields...); e == api.OK && slices.Equal(again, l) {
						return
					}
				}
				t.Fatalf("Get(%v) = %v", l, fields)
			}
			if isFrame(l) || e != api.ErrForm {
				t.Fatalf("Get(%v): %d", l, e)
			}
		})
	}
}

// isFrame asks, of a short row, whether some fields' frame is that row, from its end on.
func isFrame(l row) bool {
	if len(l) == 0 {
		return true
	}
	for n := 0; n+2 <= len(l); n++ {
		at := len(l) - n - 2
		if l[at] >= 1 && l[at] <= 255 && l[at+1] == uint32(n) && isFrame(l[:at]) {
			return true
		}
	}
	return false
}

// P2.3: what is put is read as it was.
func TestPutIsRead(t *testing.T) {
	for count := range 9 {
		for size := range 17 {
			for _, tag := range []uint32{1, 2, 128, 255} {
				var fields []api.Field
				for i := range count {
					n := (size + 3*i) % 17
					fields = append(fields, wire.One((tag+uint32(i)-1)%255+1, words(n)...))
				}
				l, e := wire.Put(fields...)
				if len(frame(fields...)) > api.MaxWords {
					if e != api.ErrLong {
						t.Fatal(fields, e)
					}
					continue
				}
				got, ge := wire.Get(l)
				if e != api.OK || ge != api.OK || !sameFields(got, fields) {
					t.Fatal(fields, l, e, got, ge)
				}
			}
		}
	}
}

// overwrite fills a row and the room behind its length.
func overwrite(l row, w uint32) {
	l = l[:cap(l)]
	for i := range l {
		l[i] = w
	}
}

// P2.4: no call changes words or fields, nor what stands around them and in the room behind their length.
func TestHandedInStays(t *testing.T) {
	whole := row{9, 3, 1, 9, 1, 0, 7, 1, 5}
	was := slices.Clone(whole)
	first, second := whole[1:4], whole[4:6]
	fields := make([]api.Field, 2, 4)
	fields[0], fields[1] = api.Field{Tag: 1, Data: first}, api.Field{Tag: 2, Data: second}
	fields[:3][2] = api.Field{Tag: 88, Data: row{4}}
	l, e := wire.Put(fields...)
	if e != api.OK {
		t.Fatal(e)
	}
	overwrite(l, 77)
	wire.May(fields[0])
	overwrite(wire.One(4, first...).Data, 77)
	overwrite(wire.One(4, first[:0]...).Data, 77)
	for from := range len(whole) + 1 {
		for to := from; to <= len(whole); to++ {
			got, _ := wire.Get(whole[from:to])
			for _, f := range got[:cap(got)] {
				overwrite(f.Data, 77)
			}
		}
	}
	if !slices.Equal(whole, was) {
		t.Error(whole)
	}
	if !sameFields(fields[:3], []api.Field{{Tag: 1, Data: was[1:4]}, {Tag: 2, Data: was[4:6]}, {Tag: 88, Data: row{4}}}) || fields[:4][3].Data != nil {
		t.Error(fields[:4])
	}
}

// P2.4: a frame, and a field, share no memory with what they were made of.
func TestMadeIsNewMemory(t *testing.T) {
	data := row{1, 2, 3}
	f := wire.One(5, data...)
	g := wire.One(5, data...)
	l, _ := wire.Put(api.Field{Tag: 5, Data: data}, f)
	overwrite(data, 66)
	if !slices.Equal(f.Data, row{1, 2, 3}) || !slices.Equal(l, row{5, 3, 1, 2, 3, 5, 3, 1, 2, 3}) {
		t.Error(f, l)
	}
	overwrite(f.Data, 55)
	if !slices.Equal(g.Data, row{1, 2, 3}) || !slices.Equal(l, row{5, 3, 1, 2, 3, 5, 3, 1, 2, 3}) {
		t.Error(g, l)
	}
}

// P2.4: of fields that are read, none shares memory with the frame, nor with another field, nor with those that are read again.
func TestReadIsNewMemory(t *testing.T) {
	fields := []api.Field{wire.One(1, 5, 6), wire.One(2), wire.One(3, 7), wire.One(4, words(16)...)}
	for i := range fields {
		l := frame(fields...)
		one, _ := wire.Get(l)
		two, _ := wire.Get(l)
		overwrite(l, 66)
		overwrite(one[i].Data, 77)
		_ = append(one[i].Data, 88, 88, 88)
		for j := range fields {
			if j != i && !sameField(one[j], fields[j]) {
				t.Error("a write into", i, "is seen in", j, one[j])
			}
		}
		one[0] = api.Field{}
		if !sameFields(two, fields) {
			t.Error("a write is seen in", two)
		}
	}
}
