package frame

import (
	"encoding/binary"
	"hash/crc32"
	"slices"
	"strings"
	"testing"
	"unsafe"

	"hoistway/api"
)

// edges are the lengths at which something turns: the ends of a body's, and
// those at which the length's two bytes change.
var edges = []int{1, 2, 3, 4, 254, 255, 256, 257, 511, 512, 1024, 2046, 2047, 2048}

// noise is n bytes of all values, others for another seed.
func noise(n int, seed uint32) string {
	text := make([]byte, n)
	state := seed
	for i := range text {
		state = state*1664525 + 1013904223
		text[i] = byte(state >> 24)
	}
	return string(text)
}

// someBodies are bodies of all edges, of zeros, of ones and of all values.
func someBodies() []string {
	var bodies []string
	for _, n := range edges {
		bodies = append(bodies, strings.Repeat("\x00", n), strings.Repeat("\xff", n), noise(n, uint32(n)))
	}
	return bodies
}

// sealed is a length, bytes, and the sum of both, by the library's own means;
// the length need not be that of the bytes.
func sealed(length int, bytes string) string {
	s := binary.BigEndian.AppendUint16(nil, uint16(length))
	s = append(s, bytes...)
	return string(binary.LittleEndian.AppendUint32(s, crc32.ChecksumIEEE(s)))
}

// frameOf is what a body's frame should be.
func frameOf(body string) string { return sealed(len(body), body) }

func framesOf(bodies ...string) string {
	var frames strings.Builder
	for _, body := range bodies {
		frames.WriteString(frameOf(body))
	}
	return frames.String()
}

// turned is s with the bytes from at on turned by mask.
func turned(s string, at int, mask ...byte) string {
	bytes := []byte(s)
	for k, bits := range mask {
		bytes[at+k] ^= bits
	}
	return string(bytes)
}

func wantNext(t *testing.T, s, body string, used int, state State) {
	t.Helper()
	b, u, st := Next(s)
	if b != body || u != used || st != state {
		t.Errorf("Next of %d bytes, %.20q = %.20q, %d, %d, want %.20q, %d, %d", len(s), s, b, u, st, body, used, state)
	}
}

func wantMore(t *testing.T, s string) {
	t.Helper()
	wantNext(t, s, "", 0, More)
}

func wantBad(t *testing.T, s string) {
	t.Helper()
	wantNext(t, s, "", 0, Bad)
}

func wantNoBody(t *testing.T, s string) {
	t.Helper()
	if body, err := Body(s); body != "" || err != api.ErrForm {
		t.Errorf("Body of %d bytes, %.20q = %.20q, %d", len(s), s, body, err)
	}
}

func wantCut(t *testing.T, s string, bodies []string, rest string, state State) {
	t.Helper()
	list, left, st := Cut(s)
	if !slices.Equal(list, bodies) || left != rest || st != state {
		t.Errorf("Cut of %d bytes, %.20q = %d bodies, %.20q, %d, want %d, %.20q, %d", len(s), s, len(list), left, st, len(bodies), rest, state)
	}
}

// P3.1

func TestOfKnownBytes(t *testing.T) {
	for _, known := range []struct{ body, frame string }{
		{"a", "\x00\x01a\x9d\xb9\xef\xdc"},
		{"abc", "\x00\x03abc\x23\xc0\xf2\x1e"},
		{"\x00", "\x00\x01\x00\x53\xe8\x5a\xe6"},
	} {
		if s, err := Of(known.body); s != known.frame || err != api.OK {
			t.Errorf("Of(%q) = %q, %d, want %q", known.body, s, err, known.frame)
		}
	}
}

func TestOfAllLengths(t *testing.T) {
	for n := 1; n <= 2048; n++ {
		body := noise(n, uint32(n))
		if s, err := Of(body); s != frameOf(body) || err != api.OK {
			t.Fatalf("Of %d bytes: %.20q, %d, want %.20q", n, s, err, frameOf(body))
		}
	}
	for _, body := range someBodies() {
		if s, err := Of(body); s != frameOf(body) || err != api.OK {
			t.Errorf("Of %d bytes, %.5q: %.20q, %d", len(body), body, s, err)
		}
	}
}

// noBodies have lengths that can't be; of some the two lowest bytes can.
func noBodies() []string {
	var bodies []string
	for _, n := range []int{0, 2049, 2050, 4096, 65535, 65536, 65537, 65536 + 2048, 1 << 20} {
		bodies = append(bodies, strings.Repeat("x", n))
	}
	return bodies
}

func TestOfNoBody(t *testing.T) {
	for _, body := range noBodies() {
		if s, err := Of(body); s != "" || err != api.ErrArg {
			t.Errorf("Of %d bytes = %.20q, %d", len(body), s, err)
		}
	}
}

func TestAll(t *testing.T) {
	for _, bodies := range [][]string{
		{},
		nil,
		{"a"},
		{"a", "bc"},
		{"bc", "a"},
		{"a", "a", "a"},
		{noise(2048, 1), "a", noise(2048, 2)},
		someBodies(),
	} {
		kept := slices.Clone(bodies)
		if s, err := All(bodies...); s != framesOf(bodies...) || err != api.OK {
			t.Errorf("All of %d = %.20q, %d, want %.20q", len(bodies), s, err, framesOf(bodies...))
		}
		if !slices.Equal(bodies, kept) {
			t.Errorf("All changed its bodies: %.20q", bodies)
		}
	}
	if s, err := All(); s != "" || err != api.OK {
		t.Errorf("All() = %q, %d", s, err)
	}
}

func TestAllOfOneIsOf(t *testing.T) {
	for _, body := range append(someBodies(), noBodies()...) {
		s, err := All(body)
		if want, wantErr := Of(body); s != want || err != wantErr {
			t.Errorf("All of %d bytes = %.20q, %d, want %.20q, %d", len(body), s, err, want, wantErr)
		}
	}
}

func TestAllWithOneThatCannotBe(t *testing.T) {
	for _, wrong := range noBodies() {
		for at := range 4 {
			bodies := slices.Insert([]string{"a", "bc", noise(2048, 3)}, at, wrong)
			if s, err := All(bodies...); s != "" || err != api.ErrArg {
				t.Errorf("All with %d bytes at %d = %.20q, %d", len(wrong), at, s, err)
			}
		}
	}
	if s, err := All("", strings.Repeat("x", 2049)); s != "" || err != api.ErrArg {
		t.Errorf("All of two that can't be = %.20q, %d", s, err)
	}
}

// P3.2

func TestNextWhole(t *testing.T) {
	for _, body := range someBodies() {
		s := frameOf(body)
		for _, behind := range []string{"", "\x00", "\xff", "\x00\x00", "\xff\xff", "x", s, noise(3000, 5)} {
			wantNext(t, s+behind, body, len(body)+6, Whole)
		}
	}
}

func TestNextMore(t *testing.T) {
	wantMore(t, "")
	for first := range 256 {
		wantMore(t, string([]byte{byte(first)}))
	}
	for _, body := range someBodies() {
		s := frameOf(body)
		for k := range len(s) {
			wantMore(t, s[:k])
		}
	}
}

// A sum can't be wrong ahead of its last byte.
func TestNextMoreOfAnyBytes(t *testing.T) {
	for _, n := range edges {
		s := string([]byte{byte(n >> 8), byte(n)}) + noise(n+4, 7)
		for k := 2; k < len(s); k++ {
			wantMore(t, s[:k])
		}
		wantBad(t, s)
	}
}

func TestNextLengths(t *testing.T) {
	few := []string{"", "x", "xxx", "\x00\x00\x00\x00"}
	many := noise(4100, 9)
	for n := range 65536 {
		length := string([]byte{byte(n >> 8), byte(n)})
		for _, behind := range few {
			if n >= 1 && n <= 2048 {
				wantMore(t, length+behind)
			} else {
				wantBad(t, length+behind)
			}
		}
		wantBad(t, length+many)
	}
}

// A right sum doesn't make a length good that can't be.
func TestNextLengthThatCannotBeWithItsSum(t *testing.T) {
	for _, n := range []int{0, 2049, 2050, 4096, 32768, 65535} {
		s := sealed(n, noise(n, 11))
		for _, cut := range []int{2, 3, 5, len(s) - 1, len(s)} {
			wantBad(t, s[:cut])
		}
		wantBad(t, s+frameOf("a"))
		wantNoBody(t, s)
	}
}

func TestNextWrongSum(t *testing.T) {
	for _, body := range someBodies() {
		s := frameOf(body)
		at := len(s) - 4
		sum := binary.LittleEndian.Uint32([]byte(s[at:]))
		wrong := []string{
			string(binary.BigEndian.AppendUint32(nil, sum)),
			string(binary.LittleEndian.AppendUint32(nil, ^sum)),
			string(binary.LittleEndian.AppendUint32(nil, sum+1)),
			string(binary.LittleEndian.AppendUint32(nil, crc32.ChecksumIEEE([]byte(body)))),
		}
		for _, four := range wrong {
			if four != s[at:] {
				wantBad(t, s[:at]+four)
				wantBad(t, s[:at]+four+s)
				wantNoBody(t, s[:at]+four)
			}
		}
		for bit := range 32 {
			wantBad(t, turned(s, at+bit/8, 1<<(bit%8)))
		}
	}
}

func TestBody(t *testing.T) {
	for _, body := range someBodies() {
		s := frameOf(body)
		if b, err := Body(s); b != body || err != api.OK {
			t.Errorf("Body of %d bytes = %.20q, %d", len(s), b, err)
		}
		for _, k := range []int{0, 1, 2, len(s) - 4, len(s) - 1} {
			wantNoBody(t, s[:k])
		}
		for _, behind := range []string{"\x00", "x", "\xff\xff", s} {
			wantNoBody(t, s+behind)
		}
		wantNoBody(t, "\x00"+s)
		wantNoBody(t, s[1:])
	}
}

func TestBodyOfNoFrame(t *testing.T) {
	for _, s := range []string{"", "\x00", "\x00\x00", "\x08\x01", "\xff\xff", "abc", "\x00\x01a", "\x00\x01a\x00\x00\x00\x00", "\x00\x00\x1d\xdf\x44\x21"} {
		wantNoBody(t, s)
	}
}

// P3.3

func TestCut(t *testing.T) {
	rows := [][]string{
		nil,
		{"a"},
		{"a", "bc"},
		{"a", "a", "\x00", "\x00\x00"},
		{noise(2048, 1), "a", noise(2048, 2), noise(2047, 3)},
		someBodies(),
	}
	long := frameOf(noise(2048, 13))
	rests := []struct {
		rest  string
		state State
	}{
		{"", More},
		{"\x00", More},
		{"\xff", More},
		{"\x00\x01", More},
		{"\x08\x00", More},
		{frameOf("a")[:6], More},
		{long[:len(long)-1], More},
		{"\x00\x00", Bad},
		{"\x08\x01", Bad},
		{"\xff\xff", Bad},
		{"\x00\x00" + frameOf("a"), Bad},
		{turned(frameOf("a"), 2, 1), Bad},
		{turned(frameOf("a"), 6, 128) + framesOf("b", "c"), Bad},
		{turned(long, 2049, 1, 2, 4, 8), Bad},
	}
	for _, row := range rows {
		for _, r := range rests {
			wantCut(t, framesOf(row...)+r.rest, row, r.rest, r.state)
		}
	}
}

// Each way to cut a row leaves a rest that goes on where it was left.
func TestCutInPieces(t *testing.T) {
	row := []string{"a", "bc", noise(40, 1), "\x00", noise(300, 2)}
	s := framesOf(row...)
	for k := range len(s) + 1 {
		first, rest, state := Cut(s[:k])
		if state != More {
			t.Fatalf("the first %d bytes: %d", k, state)
		}
		wantCut(t, rest+s[k:], row[len(first):], "", More)
	}
}

func TestCutOfManyFrames(t *testing.T) {
	row := slices.Repeat([]string{"x", "yz"}, 20000)
	wantCut(t, framesOf(row...)+"\x00\x01", row, "\x00\x01", More)
}

// Rule 3

// within tells whether a part's bytes lie among those of s.
func within(part, s string) bool {
	if part == "" || s == "" {
		return false
	}
	first := uintptr(unsafe.Pointer(unsafe.StringData(s)))
	at := uintptr(unsafe.Pointer(unsafe.StringData(part)))
	return at >= first && at < first+uintptr(len(s))
}

func TestAnswersAreNewMemory(t *testing.T) {
	s := framesOf(noise(100, 1), noise(2048, 2)) + "\x00\x64" + noise(50, 3)
	body, _, _ := Next(s)
	bodies, rest, _ := Cut(s)
	for k, part := range append(bodies, body, rest) {
		if part == "" || within(part, s) {
			t.Errorf("answer %d of %d bytes is a part of what was handed in", k, len(part))
		}
	}
	whole := frameOf("lift")
	if body, _ := Body(whole); body != "lift" || within(body, whole) {
		t.Error("a body is a part of its frame")
	}
}

// P3.4

func TestReadAsItWas(t *testing.T) {
	var row []string
	for n := 1; n <= 2048; n++ {
		body := noise(n, uint32(n)+17)
		row = append(row, body)
		s, err := Of(body)
		if err != api.OK {
			t.Fatal(n, err)
		}
		wantNext(t, s, body, len(s), Whole)
		if b, err := Body(s); b != body || err != api.OK {
			t.Errorf("Body of %d bytes = %.20q, %d", n, b, err)
		}
	}
	s, err := All(row...)
	if err != api.OK {
		t.Fatal(err)
	}
	wantCut(t, s, row, "", More)
}

func TestNoFrameBeginsAnother(t *testing.T) {
	var frames []string
	for _, body := range append(someBodies(), "a", "b", "ab", frameOf("a"), frameOf("a")+"b", frameOf(frameOf("a"))) {
		s, err := Of(body)
		if err != api.OK {
			t.Fatal(err)
		}
		frames = append(frames, s)
	}
	for i, s := range frames {
		for k, longer := range frames {
			if i != k && s != longer && strings.HasPrefix(longer, s) {
				t.Errorf("%.20q begins %.20q", s, longer)
			}
		}
		for k := range len(s) {
			if _, _, state := Next(s[:k]); state == Whole {
				t.Errorf("the first %d of %d bytes are a frame", k, len(s))
			}
		}
	}
}

func TestFourBytesTurned(t *testing.T) {
	masks := [][]byte{
		{0xff, 0xff, 0xff, 0xff}, {1, 0, 0, 0}, {0, 0, 0, 128}, {1, 0, 0, 128}, {128, 0, 0, 1},
		{0x20, 0x83, 0xb8, 0xed}, {0xed, 0xb8, 0x83, 0x20}, {0, 1, 1, 0}, {0x55, 0xaa, 0x55, 0xaa}, {0x80, 0x41, 0x06, 0xdb},
	}
	for _, body := range []string{"a", "ab", "abc", "\x00\x00\x00\x00", noise(60, 1), noise(256, 2), noise(2048, 3)} {
		s := frameOf(body)
		for at := 2; at+4 <= len(s); at++ {
			for _, mask := range masks {
				wrong := turned(s, at, mask...)
				wantBad(t, wrong)
				wantNoBody(t, wrong)
			}
		}
	}
}

func TestOneBitTurned(t *testing.T) {
	for _, body := range []string{"a", "ab", noise(60, 1), noise(256, 2)} {
		s := frameOf(body)
		for bit := 16; bit < 8*len(s); bit++ {
			wantBad(t, turned(s, bit/8, 1<<(bit%8)))
		}
		for bit := range 16 {
			if _, _, state := Next(turned(s, bit/8, 1<<(bit%8))); state == Whole {
				t.Errorf("%d bytes are whole with the length's bit %d turned", len(s), bit)
			}
		}
	}
}

// More inputs

// nextBySentence is Next, sentence by sentence.
func nextBySentence(s string) (string, int, State) {
	if len(s) < 2 {
		return "", 0, More
	}
	n := int(s[0])*256 + int(s[1])
	switch {
	case n == 0 || n > 2048:
		return "", 0, Bad
	case len(s) < n+6:
		return "", 0, More
	case s[:n+6] != frameOf(s[2:n+2]):
		return "", 0, Bad
	}
	return s[2 : n+2], n + 6, Whole
}

func FuzzRead(f *testing.F) {
	for _, s := range []string{"", "\x00", "\x00\x00", "\x08\x01", "\x00\x01a\x9d\xb9\xef\xdc", framesOf("a", "bc") + "\x00\x01", frameOf(noise(2048, 1))} {
		f.Add(s)
	}
	f.Fuzz(func(t *testing.T, s string) {
		body, used, state := nextBySentence(s)
		wantNext(t, s, body, used, state)
		b, err := Body(s)
		if isFrame := state == Whole && used == len(s); isFrame != (err == api.OK) || isFrame && b != body {
			t.Errorf("Body = %q, %d", b, err)
		}
		var row []string
		rest := s
		for state == Whole {
			row = append(row, body)
			rest = rest[used:]
			body, used, state = nextBySentence(rest)
		}
		wantCut(t, s, row, rest, state)
	})
}

func FuzzMade(f *testing.F) {
	f.Add("a", "bc", "\x00", 2, uint32(1))
	f.Add("", "x", "\xff\xff", 3, uint32(0xEDB88320))
	f.Add(noise(2048, 1), noise(2049, 2), noise(2047, 3), 100, uint32(0x80000000))
	f.Fuzz(func(t *testing.T, one, two, behind string, at int, mask uint32) {
		s, err := All(one, two)
		if len(one) < 1 || len(one) > 2048 || len(two) < 1 || len(two) > 2048 {
			if s != "" || err != api.ErrArg {
				t.Errorf("All = %q, %d", s, err)
			}
			return
		}
		if s != framesOf(one, two) || err != api.OK {
			t.Fatalf("All = %q, %d", s, err)
		}
		wantNext(t, s+behind, one, len(one)+6, Whole)
		first := s[:len(one)+6]
		if mask != 0 && at >= 2 && at+4 <= len(first) {
			wantBad(t, turned(first, at, binary.LittleEndian.AppendUint32(nil, mask)...)+behind)
		}
	})
}
