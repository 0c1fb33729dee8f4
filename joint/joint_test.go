package joint

import (
	"slices"
	"strings"
	"testing"
	"unsafe"

	"hoistway/api"
	"hoistway/frame"
)

// noise is n bytes of all values, others for another seed.
func noise(n int, seed uint32) string {
	text := make([]byte, n)
	state := seed
	for i := range text {
		state = state*1664525 + 1013904223
		text[i] = byte(state >> 24)
	}
	return string(text)
}

// framesOf is the bytes of bodies that can be.
func framesOf(t testing.TB, bodies ...string) string {
	t.Helper()
	s, err := frame.All(bodies...)
	if err != api.OK {
		t.Fatalf("no frames of %d bodies: %d", len(bodies), err)
	}
	return s
}

// turned is s with one bit of the byte at turned.
func turned(s string, at int) string {
	bytes := []byte(s)
	bytes[at] ^= 1
	return string(bytes)
}

// wantFeed feeds a piece and holds what is told against bodies and is.
func wantFeed(t *testing.T, j *Joint, piece string, is bool, bodies ...string) {
	t.Helper()
	told, good := j.Feed(piece)
	if !slices.Equal(told, bodies) || good != is {
		t.Errorf("Feed of %d bytes, %.20q = %.60q, %v, want %.60q, %v", len(piece), piece, told, good, bodies, is)
	}
}

func wantState(t *testing.T, j *Joint, bad bool, left, seen int) {
	t.Helper()
	if j.Bad() != bad || j.Left() != left || j.Seen() != seen {
		t.Errorf("bad %v, left %d, seen %d, want %v, %d, %d", j.Bad(), j.Left(), j.Seen(), bad, left, seen)
	}
}

// wantAsNew holds a joint against what a new one is and does.
func wantAsNew(t *testing.T, j *Joint) {
	t.Helper()
	wantState(t, j, false, 0, 0)
	s := framesOf(t, "a", "bc")
	wantFeed(t, j, s[:5], true)
	wantState(t, j, false, 5, 0)
	wantFeed(t, j, s[5:], true, "a", "bc")
	wantState(t, j, false, 0, 2)
	wantFeed(t, j, "\x00\x00", false)
	wantState(t, j, true, 0, 2)
}

// wantBadForGood holds a bad joint against all that may come later.
func wantBadForGood(t *testing.T, j *Joint, seen int) {
	t.Helper()
	one := framesOf(t, "a")
	for _, piece := range []string{"", "\x00", "\x01", "\x00\x01", one, one + one, one[:3], one[3:], "\x00\x00", "\xff\xff", noise(3000, 3)} {
		wantFeed(t, j, piece, false)
		wantState(t, j, true, 0, seen)
	}
}

// badBytes are bytes that are bad at their very last one.
func badBytes(t testing.TB) []string {
	long := framesOf(t, noise(2048, 5))
	return []string{
		"\x00\x00",
		"\x08\x01",
		"\x10\x00",
		"\x80\x00",
		"\xff\xff",
		turned(framesOf(t, "a"), 2),
		turned(framesOf(t, "a"), 3),
		turned(framesOf(t, "a"), 6),
		"\x00\x03abc\x00\x00\x00\x00",
		turned(long, 2),
		turned(long, 1000),
		turned(long, 2053),
	}
}

// rows are bodies that come one behind the other.
func rows() [][]string {
	return [][]string{
		nil,
		{"a"},
		{"a", "bc"},
		{"\x00", "\x00\x00", "\xff\xff", "a", "a", "a"},
		{noise(40, 1), "x", noise(255, 2), noise(256, 3), "y", noise(300, 4)},
		{noise(2048, 5), "a", noise(2047, 6), noise(2048, 7)},
	}
}

// P4.1

func TestNew(t *testing.T) {
	j := New()
	if j == nil {
		t.Fatal("New() = nil")
	}
	wantAsNew(t, j)
}

func TestNoBytes(t *testing.T) {
	j := New()
	for range 3 {
		wantFeed(t, j, "", true)
		wantState(t, j, false, 0, 0)
	}
	s := framesOf(t, "lift")
	for k := range len(s) - 1 {
		wantFeed(t, j, s[k:k+1], true)
		wantFeed(t, j, "", true)
		wantState(t, j, false, k+1, 0)
	}
	wantFeed(t, j, s[len(s)-1:], true, "lift")
	wantFeed(t, j, "", true)
	wantState(t, j, false, 0, 1)
}

func TestByteByByte(t *testing.T) {
	for _, row := range rows() {
		j := New()
		for seen, body := range row {
			s := framesOf(t, body)
			last := len(s) - 1
			for k := range last {
				wantFeed(t, j, s[k:k+1], true)
				wantState(t, j, false, k+1, seen)
			}
			wantFeed(t, j, s[last:], true, body)
			wantState(t, j, false, 0, seen+1)
		}
	}
}

func TestKnownBytes(t *testing.T) {
	j := New()
	wantFeed(t, j, "\x00\x01a\x9d\xb9\xef", true)
	wantFeed(t, j, "\xdc\x00\x03ab", true, "a")
	wantState(t, j, false, 4, 1)
	wantFeed(t, j, "c\x23\xc0\xf2\x1e", true, "abc")
	wantState(t, j, false, 0, 2)
}

func TestPieceThatEndsOneAndBeginsAnother(t *testing.T) {
	first, second, third := framesOf(t, "first"), framesOf(t, "second"), framesOf(t, "third")
	for k := 1; k < len(first); k++ {
		for m := 1; m < len(third); m++ {
			j := New()
			wantFeed(t, j, first[:k], true)
			wantFeed(t, j, first[k:]+second+third[:m], true, "first", "second")
			wantState(t, j, false, m, 2)
			wantFeed(t, j, third[m:], true, "third")
			wantState(t, j, false, 0, 3)
		}
	}
}

func TestManyFramesInOnePiece(t *testing.T) {
	for _, row := range rows() {
		j := New()
		wantFeed(t, j, framesOf(t, row...), true, row...)
		wantState(t, j, false, 0, len(row))
		wantFeed(t, j, framesOf(t, row...)+"\x08", true, row...)
		wantState(t, j, false, 1, 2*len(row))
	}
	many := slices.Repeat([]string{"x", "yz"}, 20000)
	j := New()
	wantFeed(t, j, framesOf(t, many...)+"\x00\x01", true, many...)
	wantState(t, j, false, 2, 40000)
}

func TestBadAtOnce(t *testing.T) {
	for _, wrong := range badBytes(t) {
		j := New()
		wantFeed(t, j, wrong, false)
		wantState(t, j, true, 0, 0)
		wantBadForGood(t, j, 0)
	}
}

// It is bad by the byte that makes it so, and by none ahead of it.
func TestBadByteByByte(t *testing.T) {
	for _, wrong := range badBytes(t) {
		j := New()
		last := len(wrong) - 1
		for k := range last {
			wantFeed(t, j, wrong[k:k+1], true)
			wantState(t, j, false, k+1, 0)
		}
		wantFeed(t, j, wrong[last:], false)
		wantState(t, j, true, 0, 0)
		wantBadForGood(t, j, 0)
	}
}

func TestBadBehindFrames(t *testing.T) {
	for _, row := range rows() {
		for _, wrong := range badBytes(t) {
			for _, behind := range []string{"", "\x00", framesOf(t, "later", "still")} {
				j := New()
				wantFeed(t, j, framesOf(t, row...)+wrong+behind, false, row...)
				wantState(t, j, true, 0, len(row))
				wantBadForGood(t, j, len(row))
			}
		}
	}
}

// The frames ahead of what is bad are told, those that began earlier too.
func TestBadInALaterPiece(t *testing.T) {
	s := framesOf(t, "first", "second", "third")
	for k := range len(s) {
		j := New()
		ahead, is := j.Feed(s[:k])
		if !is {
			t.Fatal("bad at", k)
		}
		row := []string{"first", "second", "third"}
		wantFeed(t, j, s[k:]+"\xff\xff"+s, false, row[len(ahead):]...)
		wantState(t, j, true, 0, 3)
		wantBadForGood(t, j, 3)
	}
}

func TestAllLengths(t *testing.T) {
	for n := range 65536 {
		j := New()
		wantFeed(t, j, string([]byte{byte(n >> 8)}), true)
		can := n >= 1 && n <= 2048
		wantFeed(t, j, string([]byte{byte(n)}), can)
		if can {
			wantState(t, j, false, 2, 0)
		} else {
			wantState(t, j, true, 0, 0)
		}
	}
}

func TestNil(t *testing.T) {
	var j *Joint
	for _, piece := range []string{"", "\x00", framesOf(t, "a"), "\xff\xff"} {
		wantFeed(t, j, piece, false)
		wantState(t, j, true, 0, 0)
		j.Reset()
		wantState(t, j, true, 0, 0)
	}
}

// P4.2

func TestLongestWait(t *testing.T) {
	body := noise(2048, 11)
	s := framesOf(t, body)
	j := New()
	wantFeed(t, j, s[:2053], true)
	wantState(t, j, false, 2053, 0)
	wantFeed(t, j, "", true)
	wantState(t, j, false, 2053, 0)
	wantFeed(t, j, s[2053:]+s[:2053], true, body)
	wantState(t, j, false, 2053, 1)
	wantFeed(t, j, s[2053:], true, body)
	wantState(t, j, false, 0, 2)
}

func TestLongestWaitTurnsBad(t *testing.T) {
	s := framesOf(t, noise(2048, 11))
	j := New()
	wantFeed(t, j, framesOf(t, "a")+s[:2053], true, "a")
	wantState(t, j, false, 2053, 1)
	wantFeed(t, j, turned(s[2053:], 0), false)
	wantState(t, j, true, 0, 1)
}

// Left stays below 2054 whatever comes, and is what came behind the last frame.
func TestLeftIsWhatCameBehindTheLastFrame(t *testing.T) {
	for _, row := range rows() {
		s := framesOf(t, row...) + "\x08\x00" + noise(2051, 13)
		j := New()
		told := 0
		for k := range len(s) {
			bodies, _ := j.Feed(s[k : k+1])
			for _, body := range bodies {
				told += len(body) + 6
			}
			if j.Left() != k+1-told || j.Left() >= 2054 {
				t.Fatalf("%d bytes came, %d were told, left %d", k+1, told, j.Left())
			}
		}
		wantState(t, j, false, 2053, len(row))
	}
}

func TestReset(t *testing.T) {
	s := framesOf(t, "first", "second")
	long := framesOf(t, noise(2048, 17))
	for _, came := range []string{"", "\x00", "\x08", "\x00\x05fi", s, s + "\x00", s + long[:2053], s[:5], "\x00\x00", "\xff\xff", s + "\xff\xff" + s, turned(s, 3)} {
		j := New()
		j.Feed(came)
		j.Reset()
		wantAsNew(t, j)
		j.Reset()
		j.Reset()
		wantAsNew(t, j)
	}
}

// What waited ahead of a Reset isn't gone on with.
func TestResetForgetsWhatWaited(t *testing.T) {
	s := framesOf(t, "lift")
	for k := 1; k < len(s); k++ {
		j := New()
		wantFeed(t, j, s[:k], true)
		j.Reset()
		wantFeed(t, j, s, true, "lift")
		wantState(t, j, false, 0, 1)
	}
}

// P4.3

// streams are bytes of all kinds: whole, with something left, and bad.
func streams(t testing.TB) []string {
	var all []string
	for _, row := range rows() {
		s := framesOf(t, row...)
		all = append(all, s, s+"\x00", s+"\x00\x09lift")
		for _, wrong := range badBytes(t) {
			all = append(all, s+wrong, s+wrong+framesOf(t, "later"))
		}
	}
	return append(all, noise(500, 19), strings.Repeat("\x00", 50), strings.Repeat("\xff", 50))
}

// wantWhole feeds pieces and holds all that is told against layer 3's Cut of
// the bytes at once.
func wantWhole(t *testing.T, pieces ...string) {
	t.Helper()
	bodies, rest, state := frame.Cut(strings.Join(pieces, ""))
	if state == frame.Bad {
		rest = ""
	}
	j := New()
	var all []string
	is := true
	for _, piece := range pieces {
		told, good := j.Feed(piece)
		if good == j.Bad() || good && !is || !is && len(told) > 0 {
			t.Fatalf("Feed: %d bodies, %v; bad %v, and was %v", len(told), good, j.Bad(), !is)
		}
		is = good
		all = append(all, told...)
	}
	if !slices.Equal(all, bodies) {
		t.Errorf("%d pieces: %.60q, want %.60q", len(pieces), all, bodies)
	}
	wantState(t, j, state == frame.Bad, len(rest), len(bodies))
}

// cutEach is s in pieces of n bytes each.
func cutEach(s string, n int) []string {
	var pieces []string
	for len(s) > n {
		pieces = append(pieces, s[:n])
		s = s[n:]
	}
	return append(pieces, s)
}

// cutBy is s in pieces of 0 to most bytes, others for another seed.
func cutBy(s string, seed uint32, most int) []string {
	var pieces []string
	state := seed
	for len(s) > 0 {
		state = state*1664525 + 1013904223
		n := min(int(state>>8)%(most+1), len(s))
		pieces = append(pieces, s[:n])
		s = s[n:]
	}
	return pieces
}

func TestCutInPiecesOfOneLength(t *testing.T) {
	for _, s := range streams(t) {
		for _, n := range []int{1, 2, 3, 4, 5, 6, 7, 8, 11, 64, 255, 256, 1000, 2047, 2048, 2053, 2054, 2055, 5000} {
			wantWhole(t, cutEach(s, n)...)
		}
	}
}

func TestCutAtEachPlace(t *testing.T) {
	for _, s := range streams(t) {
		if len(s) > 1200 {
			continue
		}
		for k := range len(s) + 1 {
			wantWhole(t, s[:k], s[k:])
		}
	}
}

func TestCutAtEachTwoPlaces(t *testing.T) {
	s := framesOf(t, "a", "bc", "def")
	for _, all := range []string{s, s + "\x00\x00" + s, s + "\x00\x02x", turned(s, 9), turned(s, len(s)-1)} {
		for k := range len(all) + 1 {
			for m := k; m <= len(all); m++ {
				wantWhole(t, all[:k], all[k:m], all[m:])
			}
		}
	}
}

func TestCutAnyhow(t *testing.T) {
	for n, s := range streams(t) {
		for seed := range uint32(3) {
			for _, most := range []int{1, 3, 20, 600, 3000} {
				wantWhole(t, cutBy(s, seed*1000+uint32(n), most)...)
			}
		}
	}
}

// Rules 3 and 4

// within tells whether a part's bytes lie among those of s.
func within(part, s string) bool {
	if part == "" || s == "" {
		return false
	}
	first := uintptr(unsafe.Pointer(unsafe.StringData(s)))
	at := uintptr(unsafe.Pointer(unsafe.StringData(part)))
	return at >= first && at < first+uintptr(len(s))
}

func TestPiecesAreNotKept(t *testing.T) {
	s := framesOf(t, noise(100, 1), noise(2048, 2)) + "\x00\x64" + noise(50, 3)
	j := New()
	bodies, _ := j.Feed(s)
	for k, body := range bodies {
		if within(body, s) {
			t.Errorf("the body %d is a part of the piece", k)
		}
	}
	if j.wait == "" || within(j.wait, s) {
		t.Error("what waits is a part of the piece")
	}
	short := "\x00\x64" + noise(50, 3)
	k := New()
	k.Feed(short)
	k.Feed("")
	if k.wait == "" || within(k.wait, short) {
		t.Error("what waits is the piece itself")
	}
}

func TestAnswersAreApart(t *testing.T) {
	s := framesOf(t, "a", "bc", "def")
	j := New()
	first, _ := j.Feed(s)
	second, _ := j.Feed(s)
	for k := range first {
		first[k] = "changed"
	}
	_ = append(first[:0], "x", "y", "z")
	if !slices.Equal(second, []string{"a", "bc", "def"}) {
		t.Errorf("the second answer is %q", second)
	}
	wantFeed(t, j, s, true, "a", "bc", "def")
}

func TestJointsAreApart(t *testing.T) {
	one, two, bad := New(), New(), New()
	s, other := framesOf(t, "lift"), framesOf(t, "door")
	for k := range len(s) - 1 {
		wantFeed(t, one, s[k:k+1], true)
		wantFeed(t, two, other[k:k+1], true)
		bad.Feed("\x00\x00")
	}
	two.Reset()
	wantFeed(t, one, s[len(s)-1:], true, "lift")
	wantState(t, one, false, 0, 1)
	wantState(t, two, false, 0, 0)
	wantState(t, bad, true, 0, 0)
}

// More inputs

func FuzzCuts(f *testing.F) {
	for k, s := range streams(f) {
		f.Add(s, uint32(k), 7)
	}
	f.Fuzz(func(t *testing.T, s string, seed uint32, most int) {
		wantWhole(t, s)
		wantWhole(t, cutEach(s, 1)...)
		wantWhole(t, cutBy(s, seed, 1+(most&0xFFF))...)
	})
}

func FuzzFrames(f *testing.F) {
	f.Add("a", "bc", "\x00", uint32(1), 3)
	f.Add(noise(2048, 1), noise(2047, 2), "\xff\xff", uint32(2), 1000)
	f.Add("x", "\x00\x00", "\x00\x01x", uint32(3), 1)
	f.Fuzz(func(t *testing.T, one, two, behind string, seed uint32, most int) {
		s, err := frame.All(one, two)
		if err != api.OK {
			return
		}
		j := New()
		var all []string
		for _, piece := range cutBy(s, seed, 1+(most&0xFFF)) {
			told, is := j.Feed(piece)
			if !is {
				t.Fatal("bad")
			}
			all = append(all, told...)
		}
		if !slices.Equal(all, []string{one, two}) {
			t.Errorf("told %q", all)
		}
		wantState(t, j, false, 0, 2)
		wantWhole(t, append(cutBy(s, seed, 1+(most&0xFFF)), behind)...)
	})
}
