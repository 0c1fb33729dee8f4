package msg

import (
	"encoding/binary"
	"math"
	"math/rand"
	"strings"
	"testing"

	"hoistway/api"
)

// most is the greatest Seq, Id, Who and N.
const most = 1073741824

// kinds are those that there are, by the chapter's own numbers.
func kinds() []int { return []int{1, 2, 3, 4, 5, 6, 7, 8, 9, 10} }

// noKinds are numbers of no kind; the lowest bits of many are one's.
func noKinds() []int {
	return []int{0, -1, -10, 11, 12, 128, 129, 255, 256, 257, 260, 266, 1 << 16, 1<<32 + 4, 1<<62 + 1, math.MinInt, math.MinInt + 4, math.MaxInt}
}

// numbers are those that a field of ints is tried with.
func numbers() []int {
	return []int{0, 1, 2, 3, 4, 5, 10, 11, 127, 128, 254, 255, 256, 257, 511, 65535, 65536, 1<<24 - 1, 1 << 24, most - 1, most, most + 1,
		math.MaxInt32, 1 << 31, math.MaxUint32, 1 << 32, 1<<32 + 1, 1<<40 + 7, 1 << 62, math.MaxInt - 1, math.MaxInt,
		-1, -2, -255, -256, -most, math.MinInt32, -1 << 32, 1 - 1<<32, math.MinInt, math.MinInt + 1}
}

// tokens are those of 4 bytes.
func tokens() []uint32 {
	return []uint32{0, 1, 255, 256, 0x01020304, math.MaxInt32, 1 << 31, math.MaxUint32 - 1, math.MaxUint32}
}

// keys are those of 8 bytes.
func keys() []uint64 {
	return []uint64{0, 1, 255, 1 << 32, 0x0102030405060708, math.MaxInt64 - 1, math.MaxInt64, 1 << 63, 1<<63 + 1, math.MaxUint64 - 1, math.MaxUint64}
}

// fields are all that a request has as ints, but its Kind.
func fields(r *Request) []*int {
	return []*int{&r.Seq, &r.Who, &r.Role, &r.Id, &r.Car, &r.Mode, &r.Filter.Kind, &r.Filter.N,
		&r.Call.Id, &r.Call.Kind, &r.Call.From, &r.Call.To, &r.Call.Car, &r.Call.State, &r.Call.Owner, &r.Call.Born}
}

// some are requests that can be, of each kind.
func some() []Request {
	return []Request{
		{Kind: 1, Who: 1},
		{Kind: 1, Seq: 1, Who: 2, Role: 3, Token: 0x01020304},
		{Kind: 1, Seq: most, Who: most, Role: 255, Token: math.MaxUint32},
		{Kind: 2, Who: 1},
		{Kind: 2, Seq: 77, Who: 0x0ABCDEF0, Token: 1 << 31},
		{Kind: 3},
		{Kind: 3, Seq: 256},
		{Kind: 4},
		{Kind: 4, Seq: 5, Key: 0x0102030405060708, Call: api.Call{Kind: 4, From: 2, To: 5}},
		{Kind: 4, Seq: most, Key: math.MaxUint64, Call: api.Call{Kind: 255, From: 254, To: 253, Car: 252}},
		{Kind: 5},
		{Kind: 5, Seq: 6, Key: 1 << 63, Id: 7},
		{Kind: 5, Key: math.MaxUint64, Id: most},
		{Kind: 6},
		{Kind: 6, Seq: 3, Id: 0x01020304},
		{Kind: 7, Seq: 1},
		{Kind: 8},
		{Kind: 8, Seq: 9, Filter: Filter{1, 1}},
		{Kind: 8, Filter: Filter{2, most}},
		{Kind: 8, Filter: Filter{3, 0x01020304}},
		{Kind: 9, Seq: 2},
		{Kind: 10},
		{Kind: 10, Seq: 4, Car: 1, Mode: 2},
		{Kind: 10, Seq: most, Car: 255, Mode: 255},
	}
}

// changed are requests one or two of whose numbers are any.
func changed(r Request) []Request {
	list := []Request{r}
	for i := range fields(&r) {
		for _, n := range numbers() {
			x := r
			*fields(&x)[i] = n
			list = append(list, x)
			for j := range i {
				y := x
				*fields(&y)[j] = n
				list = append(list, y)
			}
		}
	}
	for _, token := range tokens() {
		x := r
		x.Token = token
		list = append(list, x)
	}
	for _, key := range keys() {
		x := r
		x.Key = key
		list = append(list, x)
	}
	for _, kind := range append(kinds(), noKinds()...) {
		x := r
		x.Kind = kind
		list = append(list, x)
	}
	return list
}

// The chapter's words, written anew

// between: whether a number goes from least to 2^30.
func between(least, n int) bool { return n >= least && n <= most }

// byteful: whether all are numbers of one byte.
func byteful(list ...int) bool {
	for _, n := range list {
		if n < 0 || n > 255 {
			return false
		}
	}
	return true
}

func filterIs(f Filter) bool {
	switch f.Kind {
	case 0:
		return f.N == 0
	case 1, 2, 3:
		return between(1, f.N)
	}
	return false
}

// four, eight and ones are numbers of so many bytes.
func four(n int) string { return string(binary.BigEndian.AppendUint32(nil, uint32(n))) }

func eight(n uint64) string { return string(binary.BigEndian.AppendUint64(nil, n)) }

func ones(list ...int) string {
	s := []byte{}
	for _, n := range list {
		s = append(s, byte(n))
	}
	return string(s)
}

// encoded is the table, row by row: what a request of that kind has, whether
// that can be, and its bytes.
func encoded(r Request) (string, bool) {
	head := Request{Kind: r.Kind, Seq: r.Seq}
	can, body := false, ""
	switch r.Kind {
	case 1:
		head.Who, head.Role, head.Token = r.Who, r.Role, r.Token
		can, body = between(1, r.Who) && byteful(r.Role), four(r.Who)+ones(r.Role)+four(int(r.Token))
	case 2:
		head.Who, head.Token = r.Who, r.Token
		can, body = between(1, r.Who), four(r.Who)+four(int(r.Token))
	case 3, 7, 9:
		can = true
	case 4:
		x := r.Call
		head.Key, head.Call = r.Key, api.Call{Kind: x.Kind, From: x.From, To: x.To, Car: x.Car}
		can, body = byteful(x.Kind, x.From, x.To, x.Car), eight(r.Key)+ones(x.Kind, x.From, x.To, x.Car)
	case 5:
		head.Key, head.Id = r.Key, r.Id
		can, body = between(0, r.Id), eight(r.Key)+four(r.Id)
	case 6:
		head.Id = r.Id
		can, body = between(0, r.Id), four(r.Id)
	case 8:
		head.Filter = r.Filter
		can, body = filterIs(r.Filter), ones(r.Filter.Kind)+four(r.Filter.N)
	case 10:
		head.Car, head.Mode = r.Car, r.Mode
		can, body = byteful(r.Car, r.Mode), ones(r.Car, r.Mode)
	}
	if !can || r != head || !between(0, r.Seq) {
		return "", false
	}
	return ones(r.Kind) + four(r.Seq) + body, true
}

// sizes are how many bytes the kinds have, as the table's rows sum up.
func sizes() []int { return []int{0, 14, 13, 5, 17, 17, 9, 5, 10, 5, 7} }

// decoded takes the bytes of a body to where they belong; what they were taken
// to must have these bytes.
func decoded(body string) (Request, bool) {
	if body == "" || int(body[0]) >= len(sizes()) || body[0] == 0 || len(body) != sizes()[body[0]] {
		return Request{}, false
	}
	at := func(i int) int { return int(body[i]) }
	number := func(i int) int { return int(binary.BigEndian.Uint32([]byte(body[i:]))) }
	r := Request{Kind: at(0), Seq: number(1)}
	switch r.Kind {
	case 1:
		r.Who, r.Role, r.Token = number(5), at(9), uint32(number(10))
	case 2:
		r.Who, r.Token = number(5), uint32(number(9))
	case 4:
		r.Key = binary.BigEndian.Uint64([]byte(body[5:]))
		r.Call = api.Call{Kind: at(13), From: at(14), To: at(15), Car: at(16)}
	case 5:
		r.Key, r.Id = binary.BigEndian.Uint64([]byte(body[5:])), number(13)
	case 6:
		r.Id = number(5)
	case 8:
		r.Filter = Filter{at(5), number(6)}
	case 10:
		r.Car, r.Mode = at(5), at(6)
	}
	if s, can := encoded(r); !can || s != body {
		return Request{}, false
	}
	return r, true
}

func seqOf(body string) int {
	if len(body) < 5 {
		return 0
	}
	n := int64(body[1])<<24 + int64(body[2])<<16 + int64(body[3])<<8 + int64(body[4])
	if n > most {
		return 0
	}
	return int(n)
}

func askOf(r Request) string {
	if _, can := encoded(r); !can {
		return ""
	}
	r.Seq, r.Key = 0, 0
	s, _ := encoded(r)
	return s
}

// unless is no error of what can be.
func unless(can bool, err api.Errno) api.Errno {
	if can {
		return api.OK
	}
	return err
}

// want holds all that is told of a request.
func want(t testing.TB, r Request) {
	t.Helper()
	s, can := encoded(r)
	err := unless(can, api.ErrArg)
	if got, e := Encode(r); got != s || e != err {
		t.Fatalf("Encode(%+v) = %q, %d, want %q, %d", r, got, e, s, err)
	}
	if got := Ask(r); got != askOf(r) {
		t.Fatalf("Ask(%+v) = %q, want %q", r, got, askOf(r))
	}
	if got := Writes(r); got != (r.Kind == 4 || r.Kind == 5 || r.Kind == 10) {
		t.Fatalf("Writes(%+v) = %v", r, got)
	}
	if got := r.Filter.Is(); got != filterIs(r.Filter) {
		t.Fatalf("Is of %+v = %v", r.Filter, got)
	}
	if !can {
		return
	}
	if got, e := Decode(s); got != r || e != api.OK {
		t.Fatalf("%+v, encoded, is decoded as %+v, %d", r, got, e)
	}
	if got := Seq(s); got != r.Seq {
		t.Fatalf("Seq of the bytes of %+v = %d", r, got)
	}
}

// wantBody holds all that is told of bytes.
func wantBody(t testing.TB, body string) {
	t.Helper()
	r, can := decoded(body)
	err := unless(can, api.ErrForm)
	got, e := Decode(body)
	if got != r || e != err {
		t.Fatalf("Decode(%q) = %+v, %d, want %+v, %d", body, got, e, r, err)
	}
	if got := Seq(body); got != seqOf(body) {
		t.Fatalf("Seq(%q) = %d, want %d", body, got, seqOf(body))
	}
	if e != api.OK {
		return
	}
	if s, e := Encode(got); s != body || e != api.OK {
		t.Fatalf("%q, decoded, is encoded as %q, %d", body, s, e)
	}
}

// P14.1: Is

func TestIs(t *testing.T) {
	for _, x := range []struct {
		f    Filter
		want bool
	}{
		{Filter{}, true},
		{Filter{All, 1}, false},
		{Filter{All, -1}, false},
		{Filter{All, 1 << 32}, false},
		{Filter{Floor, 1}, true},
		{Filter{Floor, 33}, true}, // no floor of any building, but a number that it may be of
		{Filter{Floor, 1 << 30}, true},
		{Filter{Floor, 0}, false},
		{Filter{Floor, -1}, false},
		{Filter{Floor, 1<<30 + 1}, false},
		{Filter{Call, 1}, true},
		{Filter{Call, 1 << 30}, true},
		{Filter{Call, 0}, false},
		{Filter{Call, 1<<30 + 1}, false},
		{Filter{Car, 1}, true},
		{Filter{Car, 1 << 30}, true},
		{Filter{Car, 0}, false},
		{Filter{Car, 1<<30 + 1}, false},
		{Filter{Car, 1<<32 + 1}, false},
		{Filter{4, 0}, false},
		{Filter{4, 1}, false},
		{Filter{-1, 0}, false},
		{Filter{-1, 1}, false},
		{Filter{256, 0}, false},
		{Filter{257, 1}, false},
		{Filter{1<<32 + 1, 1}, false},
	} {
		if got := x.f.Is(); got != x.want {
			t.Errorf("Is of %+v = %v", x.f, got)
		}
	}
	for _, kind := range numbers() {
		for _, n := range numbers() {
			if got := (Filter{kind, n}).Is(); got != filterIs(Filter{kind, n}) {
				t.Fatalf("Is of %d, %d = %v", kind, n, got)
			}
		}
	}
}

func TestConstants(t *testing.T) {
	if All != 0 || Floor != 1 || Call != 2 || Car != 3 {
		t.Error(All, Floor, Call, Car)
	}
}

// P14.1: Encode and Decode

func TestBytes(t *testing.T) {
	for _, x := range []struct {
		r    Request
		want string
	}{
		{Request{Kind: api.Listing, Seq: 1}, "\x07\x00\x00\x00\x01"}, // the chapter's example
		{Request{Kind: api.Hello, Seq: 0x01020304, Who: 0x05060708, Role: 9, Token: 0xABCDEF01}, "\x01\x01\x02\x03\x04\x05\x06\x07\x08\x09\xab\xcd\xef\x01"},
		{Request{Kind: api.Hello, Who: 1, Role: 255, Token: math.MaxUint32}, "\x01\x00\x00\x00\x00\x00\x00\x00\x01\xff\xff\xff\xff\xff"},
		{Request{Kind: api.Resume, Seq: 1 << 30, Who: 1 << 30, Token: 1 << 31}, "\x02\x40\x00\x00\x00\x40\x00\x00\x00\x80\x00\x00\x00"},
		{Request{Kind: api.Close}, "\x03\x00\x00\x00\x00"},
		{Request{Kind: api.Place, Seq: 2, Key: 0x8182838485868788, Call: api.Call{Kind: 1, From: 2, To: 3, Car: 4}}, "\x04\x00\x00\x00\x02\x81\x82\x83\x84\x85\x86\x87\x88\x01\x02\x03\x04"},
		{Request{Kind: api.Place, Call: api.Call{Kind: 255, From: 255, To: 255, Car: 255}}, "\x04\x00\x00\x00\x00\x00\x00\x00\x00\x00\x00\x00\x00\xff\xff\xff\xff"},
		{Request{Kind: api.Cancel, Key: math.MaxUint64, Id: 1 << 30}, "\x05\x00\x00\x00\x00\xff\xff\xff\xff\xff\xff\xff\xff\x40\x00\x00\x00"},
		{Request{Kind: api.Cancel, Key: 1 << 63}, "\x05\x00\x00\x00\x00\x80\x00\x00\x00\x00\x00\x00\x00\x00\x00\x00\x00"},
		{Request{Kind: api.Query, Seq: 255, Id: 258}, "\x06\x00\x00\x00\xff\x00\x00\x01\x02"},
		{Request{Kind: api.Query}, "\x06\x00\x00\x00\x00\x00\x00\x00\x00"},
		{Request{Kind: api.Subscribe}, "\x08\x00\x00\x00\x00\x00\x00\x00\x00\x00"},
		{Request{Kind: api.Subscribe, Filter: Filter{Floor, 5}}, "\x08\x00\x00\x00\x00\x01\x00\x00\x00\x05"},
		{Request{Kind: api.Subscribe, Filter: Filter{Call, 1 << 30}}, "\x08\x00\x00\x00\x00\x02\x40\x00\x00\x00"},
		{Request{Kind: api.Resync, Seq: 3}, "\x09\x00\x00\x00\x03"},
		{Request{Kind: api.SetCar, Seq: 4, Car: 255, Mode: 1}, "\x0a\x00\x00\x00\x04\xff\x01"},
		{Request{Kind: api.SetCar, Mode: 255}, "\x0a\x00\x00\x00\x00\x00\xff"},
	} {
		if got, err := Encode(x.r); got != x.want || err != api.OK {
			t.Errorf("Encode(%+v) = %q, %d, want %q", x.r, got, err, x.want)
		}
		if got, err := Decode(x.want); got != x.r || err != api.OK {
			t.Errorf("Decode(%q) = %+v, %d, want %+v", x.want, got, err, x.r)
		}
		want(t, x.r)
		wantBody(t, x.want)
	}
}

// What a kind doesn't need, or what has too few bytes, can't be.
func TestEncodeOfWhatCantBe(t *testing.T) {
	for i, r := range []Request{
		{}, {Seq: 1}, {Kind: 11}, {Kind: -1}, {Kind: 263}, {Kind: 1<<32 + 7}, {Kind: math.MinInt}, {Kind: math.MaxInt},
		{Kind: 7, Seq: -1}, {Kind: 7, Seq: 1<<30 + 1}, {Kind: 7, Seq: 1 << 32}, {Kind: 7, Seq: math.MinInt}, {Kind: 7, Seq: math.MaxInt},
		{Kind: 1}, {Kind: 1, Who: -1}, {Kind: 1, Who: 1<<30 + 1}, {Kind: 1, Who: 1<<32 + 1}, {Kind: 1, Who: 1, Role: -1}, {Kind: 1, Who: 1, Role: 256}, {Kind: 1, Who: 1, Key: 1},
		{Kind: 2}, {Kind: 2, Who: -1}, {Kind: 2, Who: 1<<30 + 1}, {Kind: 2, Who: 1, Role: 1}, {Kind: 2, Who: 1, Id: 1},
		{Kind: 3, Who: 1}, {Kind: 3, Token: 1}, {Kind: 3, Call: api.Call{Kind: 1}},
		{Kind: 4, Call: api.Call{Kind: -1}}, {Kind: 4, Call: api.Call{Kind: 256}}, {Kind: 4, Call: api.Call{From: -1}}, {Kind: 4, Call: api.Call{From: 256}},
		{Kind: 4, Call: api.Call{To: -1}}, {Kind: 4, Call: api.Call{To: 256}}, {Kind: 4, Call: api.Call{Car: -1}}, {Kind: 4, Call: api.Call{Car: 256}},
		{Kind: 4, Call: api.Call{Id: 1}}, {Kind: 4, Call: api.Call{State: 1}}, {Kind: 4, Call: api.Call{Owner: 1}}, {Kind: 4, Call: api.Call{Born: 1}}, {Kind: 4, Id: 1}, {Kind: 4, Car: 1},
		{Kind: 5, Id: -1}, {Kind: 5, Id: 1<<30 + 1}, {Kind: 5, Call: api.Call{Id: 1}}, {Kind: 5, Who: 1},
		{Kind: 6, Id: -1}, {Kind: 6, Id: 1<<30 + 1}, {Kind: 6, Key: 1},
		{Kind: 7, Key: 1}, {Kind: 7, Filter: Filter{1, 1}}, {Kind: 7, Filter: Filter{0, 1}},
		{Kind: 8, Filter: Filter{1, 0}}, {Kind: 8, Filter: Filter{0, 1}}, {Kind: 8, Filter: Filter{4, 1}}, {Kind: 8, Filter: Filter{-1, 1}}, {Kind: 8, Filter: Filter{257, 1}},
		{Kind: 8, Filter: Filter{1, -1}}, {Kind: 8, Filter: Filter{1, 1<<30 + 1}}, {Kind: 8, Id: 1}, {Kind: 9, Filter: Filter{1, 1}}, {Kind: 9, Id: 1},
		{Kind: 10, Car: -1}, {Kind: 10, Car: 256}, {Kind: 10, Mode: -1}, {Kind: 10, Mode: 256}, {Kind: 10, Call: api.Call{Car: 1}}, {Kind: 10, Key: 1},
	} {
		if got, err := Encode(r); got != "" || err != api.ErrArg {
			t.Errorf("%d: Encode(%+v) = %q, %d", i, r, got, err)
		}
		want(t, r)
	}
}

// One and two numbers of a request after the other, at their ends and beyond.
func TestEncodeOfAll(t *testing.T) {
	for _, r := range some() {
		if _, can := encoded(r); !can {
			t.Fatalf("%+v can't be", r)
		}
		for _, x := range changed(r) {
			want(t, x)
		}
	}
	for _, kind := range append(kinds(), noKinds()...) {
		for _, x := range changed(Request{Kind: kind}) {
			want(t, x)
		}
	}
}

func TestDecodeOfWhatCantBe(t *testing.T) {
	for _, body := range []string{
		"", "\x07", "\x07\x00\x00\x00", "\x07\x00\x00\x00\x01\x00", "\x00\x00\x00\x00\x01", "\x0b\x00\x00\x00\x01", "\x87\x00\x00\x00\x01", "\xff\x00\x00\x00\x01",
		"\x07\x40\x00\x00\x01", "\x07\x80\x00\x00\x01", "\x07\xff\xff\xff\xff", // a Seq above 2^30
		"\x01\x00\x00\x00\x00\x00\x00\x00\x00\x01\x00\x00\x00\x00", // a Hello of nobody
		"\x01\x00\x00\x00\x00\x40\x00\x00\x01\x01\x00\x00\x00\x00",
		"\x02\x00\x00\x00\x00\x00\x00\x00\x00\x00\x00\x00\x00", // a Resume of no session
		"\x02\x00\x00\x00\x00\x80\x00\x00\x01\x00\x00\x00\x00",
		"\x05\x00\x00\x00\x00\x00\x00\x00\x00\x00\x00\x00\x00\x40\x00\x00\x01",
		"\x06\x00\x00\x00\x00\x40\x00\x00\x01",
		"\x06\x00\x00\x00\x00\xff\xff\xff\xff",
		"\x08\x00\x00\x00\x00\x00\x00\x00\x00\x01", // filters that can't be
		"\x08\x00\x00\x00\x00\x01\x00\x00\x00\x00",
		"\x08\x00\x00\x00\x00\x03\x00\x00\x00\x00",
		"\x08\x00\x00\x00\x00\x02\x40\x00\x00\x01",
		"\x08\x00\x00\x00\x00\x04\x00\x00\x00\x01",
		"\x08\x00\x00\x00\x00\xff\x00\x00\x00\x01",
		strings.Repeat("\x07", 65536), strings.Repeat("\x00", 17), strings.Repeat("\xff", 17),
	} {
		if got, err := Decode(body); got != (Request{}) || err != api.ErrForm {
			t.Errorf("Decode(%.20q) = %+v, %d", body, got, err)
		}
		wantBody(t, body)
	}
}

// Each piece of a body, each one that is longer, and each with a byte that is
// another one.
func TestDecodeOfAll(t *testing.T) {
	for _, r := range some() {
		s, _ := encoded(r)
		for n := range len(s) {
			wantBody(t, s[:n])
			wantBody(t, s[n:])
			for b := range 256 {
				wantBody(t, s[:n]+string([]byte{byte(b)})+s[n+1:])
			}
		}
		for _, more := range []string{"\x00", "\xff", "\x07", s, strings.Repeat("\x00", 3000)} {
			if got, err := Decode(s + more); got != (Request{}) || err != api.ErrForm {
				t.Fatalf("%q and %d bytes more are %+v, %d", s, len(more), got, err)
			}
			wantBody(t, s+more)
		}
	}
	for kind := range 256 {
		for size := range 24 {
			for _, b := range []string{"\x00", "\x01", "\x40", "\xff"} {
				wantBody(t, string([]byte{byte(kind)})+strings.Repeat(b, size))
			}
		}
	}
}

// P14.2: Seq

func TestSeq(t *testing.T) {
	for _, x := range []struct {
		body string
		want int
	}{
		{"", 0},
		{"\x07", 0},
		{"\x07\x00\x00\x01", 0}, // one byte too few
		{"\x07\x01\x01\x01", 0},
		{"\x07\x00\x00\x00\x01", 1},
		{"\x07\x01\x02\x03\x04", 0x01020304},
		{"\x07\x01\x02\x03\x04\x05\x06", 0x01020304},
		{"\x00\x00\x00\x00\x09", 9}, // whatever the kind is, and whatever comes behind
		{"\xff\x00\x00\xff\x00", 0xFF00},
		{"\xff\x00\x00\x00\x07" + strings.Repeat("x", 70000), 7},
		{"\x07\x3f\xff\xff\xff", 1<<30 - 1},
		{"\x07\x40\x00\x00\x00", 1 << 30},
		{"\x07\x40\x00\x00\x01", 0},
		{"\x07\x7f\xff\xff\xff", 0},
		{"\x07\x80\x00\x00\x00", 0},
		{"\x07\x80\x00\x00\x01", 0},
		{"\x07\xff\xff\xff\xff", 0},
	} {
		if got := Seq(x.body); got != x.want {
			t.Errorf("Seq(%.20q) = %d, want %d", x.body, got, x.want)
		}
		wantBody(t, x.body)
	}
}

// P14.2: Ask

func TestAsk(t *testing.T) {
	for _, x := range []struct {
		r    Request
		want string
	}{
		{Request{Kind: 4, Seq: 5, Key: math.MaxUint64, Call: api.Call{Kind: 4, From: 2, To: 5, Car: 1}}, "\x04\x00\x00\x00\x00\x00\x00\x00\x00\x00\x00\x00\x00\x04\x02\x05\x01"},
		{Request{Kind: 5, Seq: 1 << 30, Key: 7, Id: 9}, "\x05\x00\x00\x00\x00\x00\x00\x00\x00\x00\x00\x00\x00\x00\x00\x00\x09"},
		{Request{Kind: 5, Key: 1, Id: 9}, "\x05\x00\x00\x00\x00\x00\x00\x00\x00\x00\x00\x00\x00\x00\x00\x00\x09"},
		{Request{Kind: 6, Seq: 8, Id: 3}, "\x06\x00\x00\x00\x00\x00\x00\x00\x03"},
		{Request{Kind: 1, Seq: 8, Who: 3, Role: 2, Token: 1}, "\x01\x00\x00\x00\x00\x00\x00\x00\x03\x02\x00\x00\x00\x01"},
		{Request{Kind: 7, Seq: 8}, "\x07\x00\x00\x00\x00"},
		// None of what can't be, be it for the Seq or the Key alone.
		{Request{Kind: 7, Seq: -1}, ""},
		{Request{Kind: 7, Seq: 1<<30 + 1}, ""},
		{Request{Kind: 7, Key: 1}, ""},
		{Request{Kind: 6, Key: 1, Id: 3}, ""},
		{Request{Kind: 5, Seq: -1, Id: 9}, ""},
		{Request{Kind: 5, Id: -1}, ""},
		{Request{Kind: 4, Call: api.Call{Id: 1}}, ""},
		{Request{}, ""},
		{Request{Kind: 11}, ""},
	} {
		if got := Ask(x.r); got != x.want {
			t.Errorf("Ask(%+v) = %q, want %q", x.r, got, x.want)
		}
	}
}

// Who asks the same by another Seq and another Key asks the same, and nobody
// else does.
func TestAskIsTheSame(t *testing.T) {
	asks := map[string]Request{}
	for _, r := range some() {
		for _, seq := range []int{0, 1, 77, most} {
			for _, key := range keys() {
				x := r
				x.Seq = seq
				if r.Kind == 4 || r.Kind == 5 {
					x.Key = key
				}
				s := Ask(x)
				if s == "" || s != Ask(r) {
					t.Fatalf("Ask(%+v) = %q, and Ask(%+v) = %q", x, s, r, Ask(r))
				}
			}
		}
		bare := r
		bare.Seq, bare.Key = 0, 0
		if got, err := Decode(Ask(r)); got != bare || err != api.OK {
			t.Fatalf("Ask(%+v) are the bytes of %+v, %d", r, got, err)
		}
		if x, is := asks[Ask(r)]; is && x != bare {
			t.Fatalf("%+v and %+v ask the same", x, bare)
		}
		asks[Ask(r)] = bare
	}
}

// P14.2: Writes

func TestWrites(t *testing.T) {
	for _, kind := range append(kinds(), noKinds()...) {
		x := kind == 4 || kind == 5 || kind == 10
		// Also of requests that can't be: it hangs on the Kind alone.
		for _, r := range []Request{{Kind: kind}, {Kind: kind, Seq: -1}, {Kind: kind, Key: 1, Id: -1, Who: 5}, {Kind: kind, Call: api.Call{Id: 9}, Mode: 256}} {
			if got := Writes(r); got != x {
				t.Errorf("Writes(%+v) = %v", r, got)
			}
		}
	}
}

// P14.3

func TestDecodedAsItWas(t *testing.T) {
	for _, r := range some() {
		for _, x := range changed(r) {
			s, err := Encode(x)
			if err != api.OK {
				continue
			}
			if got, err := Decode(s); got != x || err != api.OK {
				t.Fatalf("%+v is %q, and that is %+v, %d", x, s, got, err)
			}
		}
	}
}

func TestUnlikeBytes(t *testing.T) {
	seen := map[string]Request{}
	for _, r := range some() {
		for _, x := range changed(r) {
			s, err := Encode(x)
			if err != api.OK {
				continue
			}
			if y, is := seen[s]; is && y != x {
				t.Fatalf("%+v and %+v are both %q", x, y, s)
			}
			seen[s] = x
		}
	}
	if len(seen) < 1000 {
		t.Errorf("only %d were held against each other", len(seen))
	}
}

// By chance

// drawn is a request out of numbers: most often one that can be.
func drawn(n func(int) int) Request {
	any4 := func() int { return n(1<<15)<<16 | n(1<<16) }
	r := Request{Kind: 1 + n(10)}
	r.Seq = any4() % (most + 1)
	switch r.Kind {
	case 1, 2:
		r.Who, r.Token = 1+any4()%most, uint32(any4())*2+uint32(n(2))
		if r.Kind == 1 {
			r.Role = n(256)
		}
	case 4:
		r.Key = uint64(any4())<<33 ^ uint64(any4())<<3
		r.Call = api.Call{Kind: n(256), From: n(256), To: n(256), Car: n(256)}
	case 5, 6:
		r.Id = any4() % (most + 1)
		if r.Kind == 5 {
			r.Key = uint64(any4())<<33 ^ uint64(any4())<<3
		}
	case 8:
		if r.Filter.Kind = n(4); r.Filter.Kind > 0 {
			r.Filter.N = 1 + any4()%most
		}
	case 10:
		r.Car, r.Mode = n(256), n(256)
	}
	if n(4) == 0 {
		*fields(&r)[n(16)] = numbers()[n(len(numbers()))]
	}
	return r
}

func TestByChance(t *testing.T) {
	for seed := range int64(40) {
		r := rand.New(rand.NewSource(seed))
		for range 500 {
			x := drawn(r.Intn)
			want(t, x)
			s, err := Encode(x)
			if err != api.OK {
				continue
			}
			wantBody(t, s)
			broken := []byte(s)
			broken[r.Intn(len(s))] ^= byte(1 << r.Intn(8))
			wantBody(t, string(broken))
		}
	}
}

func FuzzRequest(f *testing.F) {
	f.Add(4, 5, 0, 0, uint32(0), uint64(9), 4, 2, 5, 0, 0, 0, 0, 0, 0)
	f.Add(1, 5, 8, 1, uint32(77), uint64(0), 0, 0, 0, 0, 0, 0, 0, 0, 0)
	f.Add(8, 1, 0, 0, uint32(0), uint64(0), 0, 0, 0, 0, 0, 0, 0, 1, 5)
	f.Add(10, 1, 0, 0, uint32(0), uint64(0), 0, 0, 0, 0, 0, 3, 2, 0, 0)
	f.Fuzz(func(t *testing.T, kind, seq, who, role int, token uint32, key uint64, what, from, to, in, id, car, mode, of, n int) {
		r := Request{Kind: kind, Seq: seq, Who: who, Role: role, Token: token, Key: key,
			Call: api.Call{Kind: what, From: from, To: to, Car: in}, Id: id, Car: car, Mode: mode, Filter: Filter{of, n}}
		want(t, r)
		// And with what one kind alone needs, within its bounds.
		seq, who, id = seq&(most-1), 1+who&(most-1), id&(most-1)
		want(t, Request{Kind: 1, Seq: seq, Who: who, Role: role & 255, Token: token})
		want(t, Request{Kind: 2, Seq: seq, Who: who, Token: token})
		want(t, Request{Kind: 4, Seq: seq, Key: key, Call: api.Call{Kind: what & 255, From: from & 255, To: to & 255, Car: in & 255}})
		want(t, Request{Kind: 5, Seq: seq, Key: key, Id: id})
		want(t, Request{Kind: 6, Seq: seq, Id: id})
		want(t, Request{Kind: 8, Seq: seq, Filter: Filter{of & 3, n & (2*most - 1)}})
		want(t, Request{Kind: 10, Seq: seq, Car: car & 255, Mode: mode & 255})
	})
}

func FuzzBody(f *testing.F) {
	for _, r := range some() {
		s, _ := encoded(r)
		f.Add(s)
	}
	f.Fuzz(func(t *testing.T, body string) {
		wantBody(t, body)
		if len(body) > 1 {
			body = string([]byte{body[0] % 12}) + body[1:]
			wantBody(t, body)
			wantBody(t, body[:min(len(body), append(sizes(), 1)[body[0]%12])])
		}
	})
}
