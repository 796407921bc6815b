package part_test

import (
	"math"
	"slices"
	"strings"
	"testing"

	"chamberlain/api"
	"chamberlain/part"
)

type row = []uint32

// letters are those of all words that there are in a part.
const letters = "NMABKTH"

// had tells, at a label, what the chapter gives a part, in its order.
var had = []string{
	2: "NBKTH",
	3: "KAT",
	4: "N",
	5: "N",
	6: "NMAB",
	7: "NMAB",
	8: "NK",
	9: "NK",
}

// labels are all that there are.
var labels = row{2, 3, 4, 5, 6, 7, 8, 9}

// samples are words that a part may have: none, small, great, those of labels and names, those of draws, all ones.
var samples = row{0, 1, 2, 3, 9, 10, 255, 256, 1 << 16, 1<<31 - 1, 1 << 31, 1<<31 + 1, math.MaxUint32 - 1, math.MaxUint32}

// word answers the word of a letter.
func word(p api.Part, letter rune) uint32 {
	switch letter {
	case 'N':
		return p.N
	case 'M':
		return p.M
	case 'A':
		return p.A
	case 'B':
		return p.B
	case 'K':
		return p.K
	case 'T':
		return p.T
	case 'H':
		return p.H
	}
	panic("no word of a part")
}

// with answers the part with another word of a letter.
func with(p api.Part, letter rune, w uint32) api.Part {
	switch letter {
	case 'N':
		p.N = w
	case 'M':
		p.M = w
	case 'A':
		p.A = w
	case 'B':
		p.B = w
	case 'K':
		p.K = w
	case 'T':
		p.T = w
	case 'H':
		p.H = w
	default:
		panic("no word of a part")
	}
	return p
}

// of answers the part of a label whose words are those of a row.
func of(label uint32, l row) api.Part {
	var p api.Part
	for i, letter := range had[label] {
		p = with(p, letter, l[i])
	}
	return p
}

// lacks answers the letters of the words that a part of a label hasn't.
func lacks(label uint32) string {
	var l string
	for _, letter := range letters {
		if !strings.ContainsRune(had[label], letter) {
			l += string(letter)
		}
	}
	return l
}

// words answers n words, none of them like another, and none 0.
func words(n int, from uint32) row {
	l := make(row, n)
	for i := range l {
		l[i] = from + uint32(i)
	}
	return l
}

// some answers n words that look like any, those of another number unlike them.
func some(n, number int) row {
	l := make(row, n)
	x := uint32(number)*2654435761 + 12345
	for i := range l {
		x ^= x << 13
		x ^= x >> 17
		x ^= x << 5
		l[i] = x
	}
	return l
}

// noLabels answers what is no label: all about the labels, and such as would be one if they were cut, or had a bit less.
func noLabels() row {
	l := row{1<<31 - 1, 1 << 31, 1 << 16, 1 << 24, math.MaxUint32}
	for label := range uint32(1100) {
		l = append(l, label, -label)
	}
	for label := range uint32(16) {
		for bit := 4; bit < 32; bit++ {
			l = append(l, label|1<<bit, label<<bit)
		}
		l = append(l, label<<8|label, label<<16|label, label<<24|label, ^label)
	}
	return slices.DeleteFunc(l, func(label uint32) bool { return label >= 2 && label <= 9 })
}

// rows calls f with every row of n words that are each one of these.
func rows(n int, of row, f func(l row)) {
	l := make(row, n)
	var fill func(at int)
	fill = func(at int) {
		if at == n {
			f(l)
			return
		}
		for _, w := range of {
			l[at] = w
			fill(at + 1)
		}
	}
	fill(0)
}

// isPut asks that a part may be, and that its words are these.
func isPut(t *testing.T, label uint32, p api.Part, want row) {
	t.Helper()
	if !part.May(label, p) {
		t.Fatalf("May(%d, %+v) = false", label, p)
	}
	if l, e := part.Put(label, p); e != api.OK || !slices.Equal(l, want) {
		t.Fatalf("Put(%d, %+v) = %v, %d, want %v", label, p, l, e, want)
	}
}

// isRead asks that words are read as that part.
func isRead(t *testing.T, label uint32, l row, want api.Part) {
	t.Helper()
	if p, e := part.Get(label, l); e != api.OK || p != want {
		t.Fatalf("Get(%d, %v) = %+v, %d, want %+v", label, l, p, e, want)
	}
}

// isRefused asks that a part may not be, and isn't put.
func isRefused(t *testing.T, label uint32, p api.Part) {
	t.Helper()
	if part.May(label, p) {
		t.Fatalf("May(%d, %+v) = true", label, p)
	}
	if l, e := part.Put(label, p); e != api.ErrArg || len(l) != 0 {
		t.Fatalf("Put(%d, %+v) = %v, %d", label, p, l, e)
	}
}

// isUnread asks that words aren't read, with that error, and nothing beside it.
func isUnread(t *testing.T, label uint32, l row, want api.Errno) {
	t.Helper()
	if p, e := part.Get(label, l); e != want || p != (api.Part{}) {
		t.Fatalf("Get(%d, %v) = %+v, %d, want %d", label, l, p, e, want)
	}
}

// written are parts of each label, and their words, written out.
var written = []struct {
	label uint32
	p     api.Part
	l     row
}{
	{api.LabelGrant, api.Part{N: 11, B: 12, K: 13, T: 14, H: 15}, row{11, 12, 13, 14, 15}},
	{api.LabelTicket, api.Part{K: 21, A: 22, T: 23}, row{21, 22, 23}},
	{api.LabelEcho, api.Part{N: 31}, row{31}},
	{api.LabelBack, api.Part{N: 41}, row{41}},
	{api.LabelFirst, api.Part{N: 51, M: 52, A: 53, B: 54}, row{51, 52, 53, 54}},
	{api.LabelSecond, api.Part{N: 61, M: 62, A: 63, B: 64}, row{61, 62, 63, 64}},
	{api.LabelShareB, api.Part{N: 71, K: 72}, row{71, 72}},
	{api.LabelShareA, api.Part{N: 81, K: 82}, row{81, 82}},
	{2, api.Part{N: 1<<31 + 2, B: 2, K: 1<<31 + 3, T: 0, H: 1<<31 + 4}, row{1<<31 + 2, 2, 1<<31 + 3, 0, 1<<31 + 4}},
	{2, api.Part{H: math.MaxUint32}, row{0, 0, 0, 0, math.MaxUint32}},
	{2, api.Part{N: 1}, row{1, 0, 0, 0, 0}},
	{3, api.Part{K: 5, A: 1, T: 9}, row{5, 1, 9}},
	{3, api.Part{A: 7}, row{0, 7, 0}},
	{3, api.Part{T: 1 << 30}, row{0, 0, 1 << 30}},
	{4, api.Part{N: math.MaxUint32}, row{math.MaxUint32}},
	{5, api.Part{}, row{0}},
	{6, api.Part{M: 1, B: 2}, row{0, 1, 0, 2}},
	{7, api.Part{N: 4, A: 4}, row{4, 0, 4, 0}},
	{8, api.Part{K: 3}, row{0, 3}},
	{9, api.Part{N: 3}, row{3, 0}},
}

// P11.1: the chapter's example.
func TestExample(t *testing.T) {
	if l, e := part.Put(3, api.Part{K: 5, A: 1, T: 9}); e != api.OK || !slices.Equal(l, row{5, 1, 9}) {
		t.Error(l, e)
	}
}

// P11.1, P11.2: parts and their words, written out.
func TestWrittenOut(t *testing.T) {
	for _, x := range written {
		isPut(t, x.label, x.p, x.l)
		isRead(t, x.label, x.l, x.p)
		if n := part.Size(x.label); n != len(x.l) {
			t.Errorf("Size(%d) = %d, want %d", x.label, n, len(x.l))
		}
	}
}

// P11.1: Size, written out: how many words a part of each label has.
func TestSize(t *testing.T) {
	for label, want := range []int{0, 0, 5, 3, 1, 1, 4, 4, 2, 2, 0, 0, 0} {
		if n := part.Size(uint32(label)); n != want {
			t.Errorf("Size(%d) = %d, want %d", label, n, want)
		}
	}
}

// P11.1, P11.2, P11.3: of each label a part whose words are all unlike, put, read, and put again.
func TestUnlikeWords(t *testing.T) {
	for _, label := range labels {
		for _, from := range (row{1, 100, 1<<16 - 2, 1<<31 - 3, 1 << 31, math.MaxUint32 - 9}) {
			l := words(len(had[label]), from)
			p := of(label, l)
			isPut(t, label, p, l)
			isRead(t, label, l, p)
			// The other way about: the order is that of the places, not of the words.
			slices.Reverse(l)
			isPut(t, label, of(label, l), l)
			isRead(t, label, l, of(label, l))
		}
	}
}

// P11.1, P11.2: each word that a label has stands at its place, and nowhere else, whatever it is.
func TestEachWordAtItsPlace(t *testing.T) {
	for _, label := range labels {
		for i, letter := range had[label] {
			for _, w := range append(bits(), samples...) {
				for _, base := range []row{make(row, len(had[label])), words(len(had[label]), 50)} {
					l := slices.Clone(base)
					l[i] = w
					p := with(of(label, base), letter, w)
					isPut(t, label, p, l)
					isRead(t, label, l, p)
				}
			}
		}
	}
}

// bits answers the words that have one bit.
func bits() row {
	var l row
	for bit := range 32 {
		l = append(l, 1<<bit)
	}
	return l
}

// P11.1: a part may not be, if a word that the label hasn't isn't 0, be it that word alone, or beside all of the label's own.
func TestEachWordThatALabelHasNot(t *testing.T) {
	for _, label := range labels {
		full := of(label, words(len(had[label]), 50))
		ones := of(label, slices.Repeat(row{math.MaxUint32}, len(had[label])))
		for _, letter := range lacks(label) {
			for _, base := range []api.Part{{}, full, ones} {
				for _, w := range append(bits(), samples...) {
					p := with(base, letter, w)
					if w == 0 {
						isPut(t, label, p, laid(label, p))
					} else {
						isRefused(t, label, p)
					}
				}
			}
		}
	}
}

// laid answers the words of a part of a label.
func laid(label uint32, p api.Part) row {
	var l row
	for _, letter := range had[label] {
		l = append(l, word(p, letter))
	}
	return l
}

// P11.1: of each label all choices of words that aren't 0: those alone may be that are among the label's own.
func TestAllChoicesOfWords(t *testing.T) {
	for _, label := range labels {
		for choice := range 1 << len(letters) {
			var p api.Part
			may := true
			for i, letter := range letters {
				if choice>>i&1 == 1 {
					p = with(p, letter, uint32(7+i))
					may = may && strings.ContainsRune(had[label], letter)
				}
			}
			if may {
				isPut(t, label, p, laid(label, p))
			} else {
				isRefused(t, label, p)
			}
		}
	}
}

// P11.1: words that a label hasn't don't make up for each other, not even if they come to 0 together.
func TestWordsThatComeToNothing(t *testing.T) {
	for _, label := range labels {
		for i, one := range lacks(label) {
			for _, other := range lacks(label)[i+1:] {
				for _, w := range (row{1, 5, 1 << 31, math.MaxUint32}) {
					isRefused(t, label, with(with(api.Part{}, one, w), other, -w))
					isRefused(t, label, with(with(api.Part{}, one, w), other, w))
					isRefused(t, label, with(with(api.Part{}, one, w), other, ^w))
				}
			}
		}
	}
}

// P11.1, P11.2: parts that are all zero, and such as are all ones.
func TestZeroAndOnes(t *testing.T) {
	for _, label := range labels {
		n := len(had[label])
		isPut(t, label, api.Part{}, make(row, n))
		isRead(t, label, make(row, n), api.Part{})
		l := slices.Repeat(row{math.MaxUint32}, n)
		isPut(t, label, of(label, l), l)
		isRead(t, label, l, of(label, l))
		one := uint32(math.MaxUint32)
		isRefused(t, label, api.Part{N: one, M: one, A: one, B: one, K: one, T: one, H: one})
	}
}

// P11.1: nothing may be for a label that is none, the zero part neither; it has no size.
func TestNoLabel(t *testing.T) {
	for _, label := range noLabels() {
		if n := part.Size(label); n != 0 {
			t.Fatalf("Size(%d) = %d", label, n)
		}
		isRefused(t, label, api.Part{})
		isRefused(t, label, api.Part{N: 1, M: 2, A: 3, B: 4, K: 5, T: 6, H: 7})
		for _, letter := range letters {
			isRefused(t, label, with(api.Part{}, letter, 9))
		}
		for _, x := range written {
			isRefused(t, label, x.p)
		}
	}
}

// P11.2: a label that is none is told, whatever the words, and ahead of a number of words that doesn't fit.
func TestGetOfNoLabel(t *testing.T) {
	for _, label := range noLabels() {
		isUnread(t, label, nil, api.ErrArg)
		for n := range 9 {
			isUnread(t, label, words(n, 20), api.ErrArg)
			isUnread(t, label, make(row, n), api.ErrArg)
		}
	}
	for _, label := range (row{0, 1, 10, math.MaxUint32}) {
		for _, n := range []int{63, 64, 65, 1000} {
			isUnread(t, label, words(n, 20), api.ErrArg)
		}
	}
}

// P11.2: of each label each number of words is refused but one.
func TestNumbersOfWords(t *testing.T) {
	for _, label := range labels {
		for _, n := range append(counted(70), 128, 255, 256, 257, 258, 259, 260, 261, 1000, 1<<16, 1<<16+1, 1<<16+2, 1<<16+3, 1<<16+4, 1<<16+5) {
			for _, l := range []row{words(n, 30), make(row, n)} {
				if n == len(had[label]) {
					isRead(t, label, l, of(label, l))
				} else {
					isUnread(t, label, l, api.ErrForm)
				}
			}
		}
		isUnread(t, label, nil, api.ErrForm)
		isUnread(t, label, row{}, api.ErrForm)
	}
}

// counted answers the numbers ahead of n.
func counted(n int) []int {
	var l []int
	for i := range n {
		l = append(l, i)
	}
	return l
}

// P11.2: what stands in the room behind a row's length, or ahead of it, isn't in it.
func TestRoomBehindIsNotRead(t *testing.T) {
	for _, label := range labels {
		size := len(had[label])
		whole := words(20, 60)
		for from := range 5 {
			for n := range 9 {
				l := whole[from : from+n]
				if n == size {
					isRead(t, label, l, of(label, words(n, 60+uint32(from))))
				} else {
					isUnread(t, label, l, api.ErrForm)
				}
			}
		}
		isUnread(t, label, whole[:0], api.ErrForm)
		isUnread(t, label, whole[:size-1:size], api.ErrForm)
	}
}

// P11.3: of each label all rows of words from a few are read, and put again as they were; the part that was read is one that may be.
func TestReadIsPutAgain(t *testing.T) {
	few := row{0, 1, 5, 1<<31 + 1, math.MaxUint32}
	for _, label := range labels {
		rows(len(had[label]), few, func(l row) {
			p, e := part.Get(label, l)
			if e != api.OK || p != of(label, l) {
				t.Fatalf("Get(%d, %v) = %+v, %d", label, l, p, e)
			}
			isPut(t, label, p, l)
		})
	}
}

// P11.3: what is put is read as it was, and put again as it was put, of parts that look like any.
func TestPutIsRead(t *testing.T) {
	for _, label := range labels {
		for number := range 2000 {
			p := of(label, some(len(had[label]), number))
			l, e := part.Put(label, p)
			if e != api.OK || len(l) != part.Size(label) {
				t.Fatalf("Put(%d, %+v) = %v, %d", label, p, l, e)
			}
			isRead(t, label, l, p)
			isPut(t, label, p, l)
		}
	}
}

// P11.3: what is put under one label is read under those of the same size by their words, and under no other.
func TestReadUnderAnotherLabel(t *testing.T) {
	for _, x := range written {
		for _, label := range labels {
			if len(had[label]) == len(x.l) {
				isRead(t, label, x.l, of(label, x.l))
			} else {
				isUnread(t, label, x.l, api.ErrForm)
			}
		}
		for _, label := range (row{0, 1, 10}) {
			isUnread(t, label, x.l, api.ErrArg)
		}
	}
}

// P11.4: Get leaves its words as they were, with what stands ahead of them and in the room behind them, refused ones too.
func TestWordsStay(t *testing.T) {
	for _, label := range append(noLabels(), labels...) {
		for n := range 8 {
			for _, end := range []int{n + 3, 20} {
				whole := some(20, n)
				was := slices.Clone(whole)
				part.Get(label, whole[3:n+3:end])
				if !slices.Equal(whole, was) {
					t.Fatalf("Get(%d) of %d words left %v, was %v", label, n, whole, was)
				}
			}
		}
	}
}

// P11.4: a part that is handed in stays, one that may not be too.
func TestPartStays(t *testing.T) {
	for _, label := range append(noLabels(), labels...) {
		for _, x := range written {
			for _, p := range []api.Part{x.p, with(x.p, 'H', 5), with(x.p, 'M', 5)} {
				was := p
				part.May(label, p)
				part.Put(label, p)
				if p != was {
					t.Fatalf("May and Put of %d left %+v, was %+v", label, p, was)
				}
			}
		}
	}
}

// fill fills a row, and the room behind its length, with other words.
func fill(l row) {
	for i := range l[:cap(l)] {
		l[:cap(l)][i] = 77777
	}
}

// P11.4: the row that Put answers is new memory: a change of it is seen in no other answer, be it earlier or later.
func TestPutIsNewMemory(t *testing.T) {
	for _, x := range written {
		one, _ := part.Put(x.label, x.p)
		two, e := part.Put(x.label, x.p)
		fill(one)
		if e != api.OK || !slices.Equal(two, x.l) {
			t.Fatal(x.label, "a write into one answer is seen in a later one", two, e)
		}
		three, e := part.Put(x.label, x.p)
		fill(three)
		if e != api.OK || !slices.Equal(two, x.l) {
			t.Fatal(x.label, "a write into one answer is seen in an earlier one", two, e)
		}
		_ = append(one, 88888)
		for _, y := range written {
			isPut(t, y.label, y.p, y.l)
			isRead(t, y.label, y.l, y.p)
			if part.Size(y.label) != len(y.l) {
				t.Fatal(y.label, "a write into an answer changes a size")
			}
		}
	}
}

// P11.4: a change of what Get was handed changes nothing that it answered, nor what it answers later.
func TestGetKeepsNothing(t *testing.T) {
	for _, x := range written {
		l := append(slices.Clone(x.l), 1, 2, 3)[:len(x.l)]
		p, e := part.Get(x.label, l)
		fill(l)
		if e != api.OK || p != x.p {
			t.Fatal(x.label, "a write into the words is seen in the part", p, e)
		}
		p = with(p, 'N', 4)
		isRead(t, x.label, x.l, x.p)
		isRead(t, x.label, l, of(x.label, l))
		isPut(t, x.label, x.p, x.l)
	}
}

// P11.3, P11.4: a row that was put is read as the part, till it is changed, and then as what stands in it.
func TestPutRowIsTheCallersOwn(t *testing.T) {
	for _, x := range written {
		l, _ := part.Put(x.label, x.p)
		isRead(t, x.label, l, x.p)
		for i, letter := range had[x.label] {
			l[i]++
			isRead(t, x.label, l, with(of(x.label, l), letter, l[i]))
		}
		isPut(t, x.label, x.p, x.l)
	}
}

// Rule 8: what is answered hangs on what is handed in now, and on no call ahead of it.
func TestNothingIsKept(t *testing.T) {
	full := api.Part{N: 1, M: 2, A: 3, B: 4, K: 5, T: 6, H: 7}
	for _, label := range append(row{0, 1, 10, 1 << 31, math.MaxUint32}, labels...) {
		for _, x := range written {
			part.May(label, full)
			part.Put(label, full)
			part.Put(label, x.p)
			part.Size(label)
			for n := range 7 {
				part.Get(label, words(n, 90))
			}
			isPut(t, x.label, x.p, x.l)
			isRead(t, x.label, x.l, x.p)
			isRefused(t, x.label, full)
			isUnread(t, x.label, nil, api.ErrForm)
		}
	}
}

// P1 of all layers: calls end, and don't panic, whatever they are handed.
func TestEveryCallEnds(t *testing.T) {
	for _, label := range append(noLabels(), labels...) {
		part.Size(label)
		for number := range 3 {
			l := some(7, number)
			p := api.Part{N: l[0], M: l[1], A: l[2], B: l[3], K: l[4], T: l[5], H: l[6]}
			part.May(label, p)
			part.Put(label, p)
		}
		for n := range 12 {
			part.Get(label, some(n, n))
		}
	}
	for _, label := range labels {
		part.Get(label, make(row, 1<<20))
	}
}
