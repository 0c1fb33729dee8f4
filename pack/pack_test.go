package pack

import (
	"encoding/binary"
	"math"
	"slices"
	"strings"
	"testing"
)

// widths are those of numbers, each with its greatest one.
var widths = []struct{ w, most int }{
	{1, math.MaxUint8}, {2, math.MaxUint16}, {4, math.MaxUint32}, {8, math.MaxInt64},
}

// noWidths are some of the others: the neighbours, the ends, and those of which
// 8 times as many come to a width's bits by wrap-round.
var noWidths = []int{
	0, 3, 5, 6, 7, 9, 10, 12, 16, 32, 64, 255, 256, 257, -1, -2, -4, -8,
	math.MaxInt, math.MinInt, math.MaxInt32, math.MinInt32, 1 << 32, 1<<61 + 1, 1<<61 + 8, math.MinInt + 1,
}

// text is n bytes of all values.
func text(n int) string {
	bytes := make([]byte, n)
	for k := range bytes {
		bytes[k] = byte(k*7 + k>>8)
	}
	return string(bytes)
}

// written is an Out with some bytes, so that what is behind them can be told.
func written(t *testing.T) (*Out, string) {
	t.Helper()
	o := &Out{}
	if !o.Num(1, 7, 8, 9) || o.String() != "\x07\x08\x09" {
		t.Fatalf("three bytes: %q", o.String())
	}
	return o, o.String()
}

func wantBytes(t *testing.T, o *Out, want string) {
	t.Helper()
	if o.String() != want || o.Len() != len(want) {
		t.Errorf("%d bytes, %.80q, want %d, %.80q", o.Len(), o.String(), len(want), want)
	}
}

// wantBad holds that i is bad, and that no call behind makes it good again.
func wantBad(t *testing.T, i *In) {
	t.Helper()
	for round := range 2 {
		if !i.Bad() || i.Left() != 0 || i.End() {
			t.Errorf("round %d: Bad %t, Left %d, End %t", round, i.Bad(), i.Left(), i.End())
		}
		for _, w := range []int{1, 2, 4, 8, 0, 3, -1, math.MinInt, math.MaxInt} {
			if n := i.Num(w); n != 0 {
				t.Errorf("Num(%d) of a bad one = %d", w, n)
			}
		}
		for _, most := range []int{0, 1, 65535, -1, math.MinInt, math.MaxInt} {
			if s := i.Text(most); s != "" {
				t.Errorf("Text(%d) of a bad one = %q", most, s)
			}
			list := Read(i, most, func(*In) int {
				t.Error("an element of a bad one is read")
				return 1
			})
			if len(list) != 0 {
				t.Errorf("Read(%d) of a bad one = %v", most, list)
			}
		}
	}
}

func wantGood(t *testing.T, i *In, left int) {
	t.Helper()
	if i.Bad() || i.Left() != left || i.End() != (left == 0) {
		t.Errorf("Bad %t, Left %d, End %t, want %d left", i.Bad(), i.Left(), i.End(), left)
	}
}

// P2.1

func TestOutWithoutBytes(t *testing.T) {
	var o Out
	wantBytes(t, &o, "")
	wantBytes(t, &Out{}, "")
	wantBytes(t, new(Out), "")
}

func TestOutNumBytes(t *testing.T) {
	for _, known := range []struct {
		w, n int
		want string
	}{
		{2, 258, "\x01\x02"},
		{1, 0, "\x00"},
		{1, 1, "\x01"},
		{1, 127, "\x7f"},
		{1, 128, "\x80"},
		{1, 255, "\xff"},
		{2, 0, "\x00\x00"},
		{2, 1, "\x00\x01"},
		{2, 255, "\x00\xff"},
		{2, 256, "\x01\x00"},
		{2, 65535, "\xff\xff"},
		{4, 0, "\x00\x00\x00\x00"},
		{4, 0x01020304, "\x01\x02\x03\x04"},
		{4, 0x80000000, "\x80\x00\x00\x00"},
		{4, math.MaxUint32, "\xff\xff\xff\xff"},
		{8, 0, "\x00\x00\x00\x00\x00\x00\x00\x00"},
		{8, 1, "\x00\x00\x00\x00\x00\x00\x00\x01"},
		{8, 0x0102030405060708, "\x01\x02\x03\x04\x05\x06\x07\x08"},
		{8, math.MaxUint32 + 1, "\x00\x00\x00\x01\x00\x00\x00\x00"},
		{8, math.MaxInt64, "\x7f\xff\xff\xff\xff\xff\xff\xff"},
	} {
		o, ahead := written(t)
		if !o.Num(known.w, known.n) {
			t.Errorf("Num(%d, %d) = false", known.w, known.n)
		}
		wantBytes(t, o, ahead+known.want)
	}
}

func TestOutNumOfNoWidth(t *testing.T) {
	for _, w := range noWidths {
		for _, list := range [][]int{nil, {}, {0}, {1}, {255}, {0, 1, 2}, {-1}, {math.MaxInt}} {
			o, ahead := written(t)
			if o.Num(w, list...) {
				t.Errorf("Num(%d, %v) = true", w, list)
			}
			wantBytes(t, o, ahead)
			var zero Out
			if zero.Num(w, list...) {
				t.Errorf("Num(%d, %v) of the zero Out = true", w, list)
			}
			wantBytes(t, &zero, "")
		}
	}
}

func TestOutNumThatCantBe(t *testing.T) {
	for _, width := range widths {
		wrong := []int{-1, -2, -255, -256, math.MinInt32, math.MinInt, math.MinInt + 1}
		if width.w < 8 {
			wrong = append(wrong, width.most+1, width.most+2, 2*width.most+2, 1<<40, math.MaxInt)
		}
		for _, n := range wrong {
			o, ahead := written(t)
			if o.Num(width.w, n) {
				t.Errorf("Num(%d, %d) = true", width.w, n)
			}
			wantBytes(t, o, ahead)
		}
	}
}

func TestOutNumOfOneThatCantBe(t *testing.T) {
	for _, width := range widths {
		wrong := -1
		if width.w < 8 {
			wrong = width.most + 1
		}
		for place := range 5 {
			list := []int{0, 1, width.most, 2, 3}
			list[place] = wrong
			o, ahead := written(t)
			if o.Num(width.w, list...) {
				t.Errorf("Num(%d, %v) = true", width.w, list)
			}
			wantBytes(t, o, ahead)
			if !o.Num(1, 5) {
				t.Error("nothing can be written behind a false")
			}
			wantBytes(t, o, ahead+"\x05")
		}
	}
}

func TestOutNumOfLists(t *testing.T) {
	for _, width := range widths {
		o, ahead := written(t)
		if !o.Num(width.w) || !o.Num(width.w, []int{}...) {
			t.Errorf("Num(%d) of no numbers = false", width.w)
		}
		wantBytes(t, o, ahead)
		list := []int{1, 0, width.most, 77, 1}
		if !o.Num(width.w, list...) {
			t.Errorf("Num(%d, %v) = false", width.w, list)
		}
		want := ahead
		for _, n := range list {
			all := binary.BigEndian.AppendUint64(nil, uint64(n))
			want += string(all[8-width.w:])
		}
		wantBytes(t, o, want)
	}
}

func TestOutNumLeavesList(t *testing.T) {
	list := []int{1, 2, 300, 4}
	o := &Out{}
	o.Num(1, list...)
	o.Num(2, list[:3]...)
	if !slices.Equal(list, []int{1, 2, 300, 4}) {
		t.Errorf("the list became %v", list)
	}
	list[0] = 9
	wantBytes(t, o, "\x00\x01\x00\x02\x01\x2c")
}

func TestOutText(t *testing.T) {
	for _, known := range []struct{ s, want string }{
		{"ab", "\x00\x02ab"},
		{"", "\x00\x00"},
		{"\x00", "\x00\x01\x00"},
		{"\xff\xfe", "\x00\x02\xff\xfe"},
		{"\u00e9", "\x00\x02\xc3\xa9"},
		{text(255), "\x00\xff" + text(255)},
		{text(256), "\x01\x00" + text(256)},
		{text(65534), "\xff\xfe" + text(65534)},
		{text(65535), "\xff\xff" + text(65535)},
	} {
		o, ahead := written(t)
		if !o.Text(known.s) {
			t.Errorf("Text of %d bytes = false", len(known.s))
		}
		wantBytes(t, o, ahead+known.want)
	}
}

func TestOutTextTooLong(t *testing.T) {
	for _, n := range []int{65536, 65537, 131071, 131072, 1 << 24} {
		o, ahead := written(t)
		if o.Text(text(n)) {
			t.Errorf("Text of %d bytes = true", n)
		}
		wantBytes(t, o, ahead)
		if !o.Text("a") {
			t.Error("nothing can be written behind a false")
		}
		wantBytes(t, o, ahead+"\x00\x01a")
	}
}

func TestOutInOrder(t *testing.T) {
	o := &Out{}
	if !o.Text("x") || !o.Num(1, 2) || !o.Text("") || !o.Num(4, 3) || o.Num(1, 256) || !o.Num(2, 5) {
		t.Error("a call answers the wrong thing")
	}
	wantBytes(t, o, "\x00\x01x\x02\x00\x00\x00\x00\x00\x03\x00\x05")
}

func TestOutStringStays(t *testing.T) {
	o := &Out{}
	o.Text("lift")
	before := o.String()
	for range 100 {
		o.Num(8, math.MaxInt64)
	}
	if before != "\x00\x04lift" || o.Len() != 806 || o.String()[:6] != before {
		t.Errorf("%q, %d bytes", before, o.Len())
	}
}

func TestOutsApart(t *testing.T) {
	a, b := &Out{}, &Out{}
	a.Text("a")
	b.Text("b")
	a.Num(1, 1)
	wantBytes(t, a, "\x00\x01a\x01")
	wantBytes(t, b, "\x00\x01b")
}

func TestOutNil(t *testing.T) {
	var o *Out
	for _, width := range widths {
		if o.Num(width.w) || o.Num(width.w, 0) || o.Num(width.w, 1, width.most) || o.Num(width.w, -1) {
			t.Errorf("Num(%d) of nil = true", width.w)
		}
	}
	if o.Num(3, 1) || o.Text("") || o.Text("a") || o.Text(text(65536)) {
		t.Error("nil answers true")
	}
	wantBytes(t, o, "")
}

// P2.2

func TestInOf(t *testing.T) {
	for _, n := range []int{0, 1, 2, 7, 65535, 65536, 1 << 20} {
		wantGood(t, Of(text(n)), n)
	}
}

func TestInNum(t *testing.T) {
	for _, known := range []struct {
		s    string
		w, n int
	}{
		{"\x01\x02", 2, 258},
		{"\x00", 1, 0},
		{"\x80", 1, 128},
		{"\xff", 1, 255},
		{"\x00\x00", 2, 0},
		{"\x80\x00", 2, 32768},
		{"\xff\xff", 2, 65535},
		{"\x00\x00\x00\x00", 4, 0},
		{"\x01\x02\x03\x04", 4, 0x01020304},
		{"\x80\x00\x00\x00", 4, 0x80000000},
		{"\xff\xff\xff\xff", 4, math.MaxUint32},
		{"\x00\x00\x00\x00\x00\x00\x00\x00", 8, 0},
		{"\x01\x02\x03\x04\x05\x06\x07\x08", 8, 0x0102030405060708},
		{"\x00\x00\x00\x00\xff\xff\xff\xff", 8, math.MaxUint32},
		{"\x7f\xff\xff\xff\xff\xff\xff\xff", 8, math.MaxInt64},
	} {
		for _, behind := range []string{"", "\x00", "\xff\xff\xff", text(300)} {
			i := Of(known.s + behind)
			if n := i.Num(known.w); n != known.n {
				t.Errorf("Num(%d) of %q = %d, want %d", known.w, known.s, n, known.n)
			}
			wantGood(t, i, len(behind))
		}
	}
}

func TestInNumAboveTheGreatest(t *testing.T) {
	for _, high := range []string{
		"\x80\x00\x00\x00\x00\x00\x00\x00",
		"\x80\x00\x00\x00\x00\x00\x00\x01",
		"\xff\xff\xff\xff\xff\xff\xff\xff",
		"\xff\xff\xff\xff\xff\xff\xff\xfe",
		"\xc0\x00\x00\x00\x00\x00\x00\x00",
	} {
		for _, behind := range []string{"", "\x01", text(20)} {
			i := Of(high + behind)
			if n := i.Num(8); n != 0 {
				t.Errorf("Num(8) of %q = %d", high, n)
			}
			wantBad(t, i)
		}
	}
}

func TestInNumOfNoWidth(t *testing.T) {
	for _, w := range noWidths {
		for _, s := range []string{"", "\x01", text(8), text(100)} {
			i := Of(s)
			if n := i.Num(w); n != 0 {
				t.Errorf("Num(%d) = %d", w, n)
			}
			wantBad(t, i)
		}
	}
}

func TestInNumOfTooFewBytes(t *testing.T) {
	for _, width := range widths {
		for n := range width.w {
			i := Of(strings.Repeat("\x01", n))
			if got := i.Num(width.w); got != 0 {
				t.Errorf("Num(%d) of %d bytes = %d", width.w, n, got)
			}
			wantBad(t, i)
			late := Of("\x05" + strings.Repeat("\x01", n))
			if got := late.Num(1); got != 5 {
				t.Errorf("Num(1) = %d", got)
			}
			wantGood(t, late, n)
			if got := late.Num(width.w); got != 0 {
				t.Errorf("Num(%d) of the last %d bytes = %d", width.w, n, got)
			}
			wantBad(t, late)
		}
	}
}

func TestInText(t *testing.T) {
	for _, n := range []int{0, 1, 2, 255, 256, 65534, 65535} {
		s := text(n)
		bytes := string([]byte{byte(n >> 8), byte(n)}) + s
		for _, most := range []int{n, n + 1, 65535, 65536, math.MaxInt} {
			i := Of(bytes + "behind")
			if got := i.Text(most); got != s {
				t.Errorf("Text(%d) of %d bytes has %d", most, n, len(got))
			}
			wantGood(t, i, 6)
		}
		i := Of(bytes)
		if got := i.Text(n); got != s {
			t.Errorf("Text(%d) at the end has %d bytes", n, len(got))
		}
		wantGood(t, i, 0)
	}
}

func TestInTextLongerThanMost(t *testing.T) {
	for _, n := range []int{0, 1, 2, 255, 256, 65534, 65535} {
		bytes := string([]byte{byte(n >> 8), byte(n)}) + text(n) + "behind"
		for _, most := range []int{n - 1, n / 2, -1, -2, math.MinInt32, math.MinInt} {
			if most >= n {
				continue
			}
			i := Of(bytes)
			if got := i.Text(most); got != "" {
				t.Errorf("Text(%d) of %d bytes has %d", most, n, len(got))
			}
			wantBad(t, i)
		}
	}
}

func TestInTextOfTooFewBytes(t *testing.T) {
	for _, s := range []string{
		"", "\x00", "\xff",
		"\x00\x01", "\x00\x02a", "\x00\x04lif", "\x01\x00" + text(255),
		"\xff\xff", "\xff\xff" + text(65534),
	} {
		for _, most := range []int{0, 1, 2, 4, 65535, math.MaxInt} {
			i := Of(s)
			if got := i.Text(most); got != "" {
				t.Errorf("Text(%d) of %d bytes = %.40q", most, len(s), got)
			}
			wantBad(t, i)
		}
	}
}

func TestInOneBehindTheOther(t *testing.T) {
	i := Of("\x00\x02ab\x07\x00\x00\x01\x00\x00\x00\x00\x00\x01c")
	if s := i.Text(2); s != "ab" {
		t.Errorf("Text = %q", s)
	}
	wantGood(t, i, 11)
	if n := i.Num(1); n != 7 {
		t.Errorf("Num(1) = %d", n)
	}
	wantGood(t, i, 10)
	if n := i.Num(4); n != 256 {
		t.Errorf("Num(4) = %d", n)
	}
	wantGood(t, i, 6)
	if s := i.Text(0); s != "" {
		t.Errorf("Text = %q", s)
	}
	wantGood(t, i, 4)
	if n := i.Num(1); n != 0 {
		t.Errorf("Num(1) = %d", n)
	}
	wantGood(t, i, 3)
	if s := i.Text(1); s != "c" {
		t.Errorf("Text = %q", s)
	}
	wantGood(t, i, 0)
	i.Num(1)
	wantBad(t, i)
}

func TestInAtItsEnd(t *testing.T) {
	for _, w := range []int{1, 2, 4, 8, 0, -1} {
		i := Of("\x09")
		i.Num(1)
		wantGood(t, i, 0)
		if n := i.Num(w); n != 0 {
			t.Errorf("Num(%d) at the end = %d", w, n)
		}
		wantBad(t, i)
	}
	i := Of("\x00\x00")
	i.Text(0)
	wantGood(t, i, 0)
	i.Text(0)
	wantBad(t, i)
}

func TestInAskedTwice(t *testing.T) {
	i := Of("\x01\x02\x03")
	for range 3 {
		wantGood(t, i, 3)
	}
	if n := i.Num(2); n != 258 {
		t.Errorf("Num(2) = %d", n)
	}
}

func TestInsApart(t *testing.T) {
	a, b := Of("\x01\x02"), Of("\x01\x02")
	a.Num(8)
	wantBad(t, a)
	wantGood(t, b, 2)
	if n := b.Num(2); n != 258 {
		t.Errorf("Num(2) = %d", n)
	}
}

func TestInNil(t *testing.T) {
	var i *In
	wantBad(t, i)
}

// P2.3

func writeText(o *Out, s string) bool { return o.Text(s) }

func readText(i *In) string { return i.Text(65535) }

func writeByte(o *Out, n int) bool { return o.Num(1, n) }

func readByte(i *In) int { return i.Num(1) }

func TestListBytes(t *testing.T) {
	o, ahead := written(t)
	if !List(o, []string{"ab", "", "c"}, writeText) {
		t.Error("List of texts = false")
	}
	wantBytes(t, o, ahead+"\x00\x03\x00\x02ab\x00\x00\x00\x01c")
	if !List(o, []int{5, 6}, writeByte) {
		t.Error("List of numbers = false")
	}
	wantBytes(t, o, ahead+"\x00\x03\x00\x02ab\x00\x00\x00\x01c\x00\x02\x05\x06")
}

func TestListOfNothing(t *testing.T) {
	for _, list := range [][]int{nil, {}} {
		o, ahead := written(t)
		called := false
		done := List(o, list, func(*Out, int) bool {
			called = true
			return false
		})
		if !done || called {
			t.Errorf("List of nothing = %t, called %t", done, called)
		}
		wantBytes(t, o, ahead+"\x00\x00")
	}
}

func TestListOfManyElements(t *testing.T) {
	for _, n := range []int{255, 256, 65534, 65535} {
		list := make([]int, n)
		for k := range list {
			list[k] = k % 251
		}
		o, ahead := written(t)
		if !List(o, list, writeByte) {
			t.Errorf("List of %d = false", n)
		}
		want := []byte{byte(n >> 8), byte(n)}
		for _, element := range list {
			want = append(want, byte(element))
		}
		wantBytes(t, o, ahead+string(want))
	}
}

func TestListOfTooManyElements(t *testing.T) {
	for _, n := range []int{65536, 65537, 131072, 1 << 24, math.MaxInt} {
		o, ahead := written(t)
		done := List(o, make([]struct{}, n), func(*Out, struct{}) bool {
			t.Fatalf("an element of %d is written", n)
			return true
		})
		if done {
			t.Errorf("List of %d = true", n)
		}
		wantBytes(t, o, ahead)
	}
}

func TestListTillFalse(t *testing.T) {
	list := []int{10, 20, 30, 40}
	for place := range list {
		o, ahead := written(t)
		var asked []int
		done := List(o, list, func(o *Out, n int) bool {
			asked = append(asked, n)
			// What the false one itself wrote goes too.
			return o.Num(8, n) && n != list[place]
		})
		if done || !slices.Equal(asked, list[:place+1]) {
			t.Errorf("false at %d: %t, asked %v", place, done, asked)
		}
		wantBytes(t, o, ahead)
		if !o.Num(1, 1) {
			t.Error("nothing can be written behind a false")
		}
		wantBytes(t, o, ahead+"\x01")
	}
}

func TestListOfElementThatCantBe(t *testing.T) {
	for _, list := range [][]int{{256}, {-1}, {0, 1, 256}, {-1, 0}, {1, 1000, 2}} {
		o, ahead := written(t)
		if List(o, list, writeByte) {
			t.Errorf("List(%v) = true", list)
		}
		wantBytes(t, o, ahead)
		var zero Out
		if List(&zero, list, writeByte) {
			t.Errorf("List(%v) into the zero Out = true", list)
		}
		wantBytes(t, &zero, "")
	}
}

func TestListFalseAfterGrowth(t *testing.T) {
	o, ahead := written(t)
	long := text(65535)
	if List(o, []string{long, long, "", long + "x"}, writeText) {
		t.Error("List = true")
	}
	wantBytes(t, o, ahead)
	if !List(o, []string{"x"}, writeText) {
		t.Error("List = false")
	}
	wantBytes(t, o, ahead+"\x00\x01\x00\x01x")
}

func TestListOfNil(t *testing.T) {
	for _, list := range [][]int{nil, {}, {1}, {1, 2}, make([]int, 65536)} {
		called := false
		one := func(*Out, int) bool {
			called = true
			return true
		}
		if List(nil, list, one) || called || List(nil, list, nil) {
			t.Errorf("into nil: true, or called %t", called)
		}
		o, ahead := written(t)
		if List(o, list, nil) {
			t.Error("by a nil function: true")
		}
		wantBytes(t, o, ahead)
	}
}

func TestListLeavesList(t *testing.T) {
	list := []int{3, 1, 2, 99}
	List(&Out{}, list[:3], writeByte)
	List(&Out{}, list, func(_ *Out, n int) bool { return n != 1 })
	if !slices.Equal(list, []int{3, 1, 2, 99}) {
		t.Errorf("the list became %v", list)
	}
}

func TestListByOneThatEmptiesOut(t *testing.T) {
	o, ahead := written(t)
	done := List(o, []int{1, 2}, func(o *Out, n int) bool {
		*o = Out{}
		return o.Num(1, n) && n == 1
	})
	if done {
		t.Error("List = true")
	}
	wantBytes(t, o, ahead)
}

func TestListByOneThatPanics(t *testing.T) {
	for place := range 3 {
		o, ahead := written(t)
		done := List(o, []int{0, 1, 2}, func(o *Out, n int) bool {
			if n == place {
				var none []int
				n = none[n]
			}
			return o.Num(4, n)
		})
		if done {
			t.Error("List = true")
		}
		wantBytes(t, o, ahead)
	}
}

func TestReadLists(t *testing.T) {
	i := Of("\x00\x03\x00\x02ab\x00\x00\x00\x01c\x00\x02\x05\x06\x09")
	if list := Read(i, 3, readText); !slices.Equal(list, []string{"ab", "", "c"}) {
		t.Errorf("texts: %q", list)
	}
	wantGood(t, i, 5)
	if list := Read(i, 65535, readByte); !slices.Equal(list, []int{5, 6}) {
		t.Errorf("numbers: %v", list)
	}
	wantGood(t, i, 1)
}

func TestReadNothing(t *testing.T) {
	for _, most := range []int{0, 1, 65535, math.MaxInt} {
		i := Of("\x00\x00\x07")
		list := Read(i, most, func(*In) int {
			t.Error("an element of nothing is read")
			return 1
		})
		if len(list) != 0 {
			t.Errorf("Read of nothing = %v", list)
		}
		wantGood(t, i, 1)
	}
}

func TestReadMost(t *testing.T) {
	for _, n := range []int{0, 1, 2, 255, 256, 65534, 65535} {
		s := text(n)
		bytes := string([]byte{byte(n >> 8), byte(n)}) + s + "behind"
		for _, most := range []int{n, n + 1, 65535, 65536, math.MaxInt} {
			i := Of(bytes)
			list := Read(i, most, readByte)
			if len(list) != n {
				t.Errorf("Read(%d) of %d has %d", most, n, len(list))
			}
			for k, element := range list {
				if element != int(s[k]) {
					t.Fatalf("the element %d of %d = %d", k, n, element)
				}
			}
			wantGood(t, i, 6)
		}
		for _, most := range []int{n - 1, n / 2, -1, -2, math.MinInt32, math.MinInt} {
			if most >= n {
				continue
			}
			i := Of(bytes)
			list := Read(i, most, func(i *In) int {
				t.Error("an element is read of too many")
				return i.Num(1)
			})
			if len(list) != 0 {
				t.Errorf("Read(%d) of %d has %d", most, n, len(list))
			}
			wantBad(t, i)
		}
	}
}

func TestReadOfTooFewBytes(t *testing.T) {
	for _, s := range []string{"", "\x00", "\xff", "\x00\x01", "\x00\x02a", "\xff\xff", "\xff\xff" + text(65534)} {
		i := Of(s)
		if list := Read(i, 65535, readByte); len(list) != 0 {
			t.Errorf("%d bytes: a list of %d", len(s), len(list))
		}
		wantBad(t, i)
	}
}

func TestReadTillBad(t *testing.T) {
	const bytes = "\x00\x04\x01\x02\x03\x04\x05\x06"
	for place := range 4 {
		i := Of(bytes)
		asked := 0
		list := Read(i, 4, func(i *In) int {
			asked++
			if asked == place+1 {
				return i.Num(3) + 17
			}
			return i.Num(1)
		})
		if len(list) != 0 || asked != place+1 {
			t.Errorf("bad at %d: %v, asked %d", place, list, asked)
		}
		wantBad(t, i)
	}
}

func TestReadOfBad(t *testing.T) {
	i := Of("\x00\x01\x05")
	i.Num(0)
	wantBad(t, i)
	if list := Read(i, 65535, readByte); len(list) != 0 {
		t.Errorf("Read of a bad one = %v", list)
	}
	wantBad(t, i)
}

func TestReadOfNil(t *testing.T) {
	for _, most := range []int{0, 1, 65535, math.MaxInt, -1, math.MinInt} {
		list := Read(nil, most, func(*In) int {
			t.Error("an element of nil is read")
			return 1
		})
		if len(list) != 0 || len(Read[int](nil, most, nil)) != 0 {
			t.Errorf("Read(nil, %d) = %v", most, list)
		}
		i := Of("\x00\x02\x05\x06")
		if list := Read[int](i, most, nil); len(list) != 0 {
			t.Errorf("Read by a nil function = %v", list)
		}
		wantGood(t, i, 4)
	}
}

func TestReadByOneThatTakesNothing(t *testing.T) {
	i := Of("\xff\xff")
	asked := 0
	list := Read(i, 65535, func(*In) int {
		asked++
		return asked
	})
	if len(list) != 65535 || list[0] != 1 || list[65534] != 65535 {
		t.Errorf("a list of %d", len(list))
	}
	wantGood(t, i, 0)
}

// Of such elements 65535 are more than a machine holds.
func TestReadMakesNoRoomAhead(t *testing.T) {
	type wide [1 << 22]int64
	i := Of("\xff\xff\x01")
	list := Read(i, 65535, func(i *In) wide { return wide{int64(i.Num(1))} })
	if len(list) != 0 {
		t.Errorf("a list of %d", len(list))
	}
	wantBad(t, i)
}

func TestReadByOneThatPanics(t *testing.T) {
	for place := range 3 {
		i := Of("\x00\x03\x01\x02\x03\x04")
		asked := 0
		list := Read(i, 3, func(i *In) int {
			if asked == place {
				var none []int
				return none[asked]
			}
			asked++
			return i.Num(1)
		})
		if len(list) != 0 {
			t.Errorf("panic at %d: %v", place, list)
		}
		wantBad(t, i)
	}
}

func TestReadAnswersNewMemory(t *testing.T) {
	const bytes = "\x00\x02\x05\x06"
	a, b := Read(Of(bytes), 2, readByte), Read(Of(bytes), 2, readByte)
	a[0] = 99
	a = append(a, 98)
	if !slices.Equal(b, []int{5, 6}) || !slices.Equal(Read(Of(bytes), 2, readByte), []int{5, 6}) {
		t.Errorf("the other list became %v", b)
	}
}

func TestListsOfLists(t *testing.T) {
	lists := [][]string{{"a", "b"}, {}, {"", "cd"}}
	one := func(o *Out, list []string) bool { return List(o, list, writeText) }
	o, ahead := written(t)
	if !List(o, lists, one) {
		t.Error("List = false")
	}
	want := "\x00\x03" + "\x00\x02\x00\x01a\x00\x01b" + "\x00\x00" + "\x00\x02\x00\x00\x00\x02cd"
	wantBytes(t, o, ahead+want)
	i := Of(want)
	got := Read(i, 3, func(i *In) []string { return Read(i, 2, readText) })
	if !slices.EqualFunc(got, lists, slices.Equal[[]string]) {
		t.Errorf("read: %q", got)
	}
	wantGood(t, i, 0)
	o, ahead = written(t)
	if List(o, append(lists, []string{"x", text(65536)}), one) {
		t.Error("List of a list that can't be = true")
	}
	wantBytes(t, o, ahead)
	i = Of(want)
	if got := Read(i, 3, func(i *In) []string { return Read(i, 1, readText) }); len(got) != 0 {
		t.Errorf("read of lists that are too long: %q", got)
	}
	wantBad(t, i)
}

// P2.4

func TestNumsComeBack(t *testing.T) {
	for _, width := range widths {
		numbers := []int{0, 1, width.most, width.most - 1, width.most / 2, width.most/2 + 1, width.most / 3}
		for bit := range 8*width.w - 1 {
			numbers = append(numbers, 1<<bit, 1<<bit-1)
		}
		o := &Out{}
		if !o.Num(width.w, numbers...) || o.Len() != width.w*len(numbers) {
			t.Fatalf("%d numbers of %d bytes: %d bytes", len(numbers), width.w, o.Len())
		}
		i := Of(o.String())
		for _, want := range numbers {
			if n := i.Num(width.w); n != want {
				t.Errorf("a number of %d bytes: %d, want %d", width.w, n, want)
			}
		}
		wantGood(t, i, 0)
	}
}

func TestAllSmallNumsComeBack(t *testing.T) {
	for _, width := range widths {
		o := &Out{}
		for n := range min(width.most, math.MaxUint16) + 1 {
			if !o.Num(width.w, n) {
				t.Fatalf("Num(%d, %d) = false", width.w, n)
			}
		}
		i := Of(o.String())
		for n := range min(width.most, math.MaxUint16) + 1 {
			if got := i.Num(width.w); got != n {
				t.Fatalf("a number of %d bytes: %d, want %d", width.w, got, n)
			}
		}
		wantGood(t, i, 0)
	}
}

func TestTextsComeBack(t *testing.T) {
	texts := []string{"", "a", "\x00", "\xff\xff", "\u00e9\u4e16", text(255), text(256), text(65535)}
	o := &Out{}
	for _, s := range texts {
		if !o.Text(s) {
			t.Fatalf("Text of %d bytes = false", len(s))
		}
	}
	i := Of(o.String())
	for _, want := range texts {
		if s := i.Text(len(want)); s != want {
			t.Errorf("a text of %d bytes has %d", len(want), len(s))
		}
	}
	wantGood(t, i, 0)
}

func TestListsComeBack(t *testing.T) {
	type pair struct {
		name string
		n    int
	}
	one := func(o *Out, p pair) bool { return o.Text(p.name) && o.Num(8, p.n) }
	back := func(i *In) pair { return pair{i.Text(65535), i.Num(8)} }
	for _, n := range []int{0, 1, 2, 256, 65535} {
		list := make([]pair, n)
		for k := range list {
			list[k] = pair{text(k % 5), math.MaxInt - k}
		}
		o := &Out{}
		if !List(o, list, one) {
			t.Errorf("List of %d = false", n)
		}
		i := Of(o.String())
		if !slices.Equal(Read(i, n, back), list) {
			t.Errorf("a list of %d comes back as another", n)
		}
		wantGood(t, i, 0)
	}
}

func TestAnythingCutIsBad(t *testing.T) {
	o := &Out{}
	if !o.Num(4, 7) || !o.Text("lift") || !List(o, []string{"a", "bc"}, writeText) || !o.Num(8, 9) {
		t.Fatal("false")
	}
	all := o.String()
	for n := range len(all) + 1 {
		i := Of(all[:n])
		number, name := i.Num(4), i.Text(4)
		list := Read(i, 2, readText)
		last := i.Num(8)
		if n < len(all) {
			wantBad(t, i)
			continue
		}
		if number != 7 || name != "lift" || !slices.Equal(list, []string{"a", "bc"}) || last != 9 {
			t.Errorf("%d, %q, %q, %d", number, name, list, last)
		}
		wantGood(t, i, 0)
	}
}

func FuzzWritten(f *testing.F) {
	f.Add(1, 255, "lift", "")
	f.Add(2, 65536, "", "\x00\xff")
	f.Add(8, math.MaxInt, "a", "b")
	f.Add(3, 0, "a", "b")
	f.Add(4, math.MinInt, "", "")
	f.Fuzz(func(t *testing.T, w, n int, a, b string) {
		o := &Out{}
		number := o.Num(w, n)
		if number != (isWidth(w) && n >= 0 && (w == 8 || n < 1<<(8*w))) {
			t.Errorf("Num(%d, %d) = %t", w, n, number)
		}
		first := o.Text(a)
		list := List(o, []string{b, a, b}, writeText)
		if first != (len(a) < 65536) || list != (len(a) < 65536 && len(b) < 65536) {
			t.Errorf("texts of %d and %d bytes: %t, %t", len(a), len(b), first, list)
		}
		i := Of(o.String())
		if number && i.Num(w) != n {
			t.Errorf("Num(%d) isn't %d", w, n)
		}
		if first && i.Text(len(a)) != a {
			t.Errorf("Text isn't %q", a)
		}
		if list && !slices.Equal(Read(i, 3, readText), []string{b, a, b}) {
			t.Errorf("Read isn't %q, %q, %q", b, a, b)
		}
		wantGood(t, i, 0)
	})
}

// FuzzRead plays the bytes of calls on an In of any bytes, beside a plain model.
func FuzzRead(f *testing.F) {
	f.Add("\x00\x01a", "\x09", 1)
	f.Add("\x80\x00\x00\x00\x00\x00\x00\x00", "\x08", 0)
	f.Add("\x00\x02\x01\x02\x07", "\x0a\x01", 2)
	f.Add("\xff\xff", "\x09\x01", math.MaxInt)
	f.Add("\x00\x00", "\x0a\x02", math.MinInt)
	f.Fuzz(func(t *testing.T, s, calls string, most int) {
		i := Of(s)
		rest, bad := s, false
		fail := func() { rest, bad = "", true }
		take := func(n int) string {
			piece := rest[:n]
			rest = rest[n:]
			return piece
		}
		for k := range len(calls) {
			switch call := int(calls[k]); call % 11 {
			case 9:
				want := ""
				if n, ok := headOf(rest); bad || !ok || n > most || len(rest)-2 < n {
					fail()
				} else {
					want = take(2 + n)[2:]
				}
				if got := i.Text(most); got != want {
					t.Fatalf("Text(%d) = %q, want %q", most, got, want)
				}
			case 10:
				want := ""
				if n, ok := headOf(rest); bad || !ok || n > most || len(rest)-2 < n {
					fail()
				} else {
					want = take(2 + n)[2:]
				}
				got := Read(i, most, func(i *In) byte { return byte(i.Num(1)) })
				if string(got) != want {
					t.Fatalf("Read(%d) = %q, want %q", most, got, want)
				}
			default:
				w, want := call%11, uint64(0)
				if bad || !slices.Contains([]int{1, 2, 4, 8}, w) || len(rest) < w || w == 8 && rest[0] > 127 {
					fail()
				} else {
					var all [8]byte
					copy(all[8-w:], take(w))
					want = binary.BigEndian.Uint64(all[:])
				}
				if got := i.Num(w); uint64(got) != want {
					t.Fatalf("Num(%d) = %d, want %d", w, got, want)
				}
			}
			if i.Bad() != bad || i.Left() != len(rest) || i.End() != (!bad && rest == "") {
				t.Fatalf("Bad %t, Left %d, End %t, want %t, %d", i.Bad(), i.Left(), i.End(), bad, len(rest))
			}
		}
	})
}

// headOf is the length with which bytes begin.
func headOf(s string) (int, bool) {
	if len(s) < 2 {
		return 0, false
	}
	return int(s[0])<<8 | int(s[1]), true
}
