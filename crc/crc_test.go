package crc

import (
	"hash/crc32"
	"math"
	"slices"
	"strconv"
	"strings"
	"testing"
)

// noise is n bytes of all values, the same ones at each call.
func noise(n int) string {
	text := make([]byte, n)
	state := uint32(1)
	for i := range text {
		state = state*1664525 + 1013904223
		text[i] = byte(state >> 24)
	}
	return string(text)
}

// someSums holds the ends, single bits, and sums that stand for no short text.
func someSums() []uint32 {
	sums := []uint32{0, 1, 2, math.MaxUint32, math.MaxUint32 - 1, 0xCBF43926, 0xDEBB20E3, 0x2144DF1C, 0x12345678}
	for bit := range 32 {
		sums = append(sums, 1<<bit, ^(uint32(1) << bit))
	}
	return sums
}

// turned is text with the bit at place turned, counted as the sum takes them:
// of each byte the lowest one first.
func turned(text string, places ...int) string {
	bytes := []byte(text)
	for _, place := range places {
		bytes[place/8] ^= 1 << (place % 8)
	}
	return string(bytes)
}

// P1.1

func TestOfKnownTexts(t *testing.T) {
	for _, known := range []struct {
		text string
		sum  uint32
	}{
		{"", 0},
		{"123456789", 0xCBF43926},
		{"a", 0xE8B7BE43},
		{"abc", 0x352441C2},
		{"The quick brown fox jumps over the lazy dog", 0x414FA339},
		{"\x00", 0xD202EF8D},
		{"\xff", 0xFF000000},
		{"\x00\x00\x00\x00", 0x2144DF1C},
		{"\xff\xff\xff\xff", 0xFFFFFFFF},
		{strings.Repeat("\x00", 32), 0x190A55AD},
		{strings.Repeat("\xff", 32), 0xFF6CAB0B},
	} {
		if sum := Of(known.text); sum != known.sum {
			t.Errorf("Of(%q) = %08X, want %08X", known.text, sum, known.sum)
		}
	}
}

func TestOfEachByte(t *testing.T) {
	for value := range 256 {
		text := string([]byte{byte(value)})
		if sum, want := Of(text), crc32.ChecksumIEEE([]byte(text)); sum != want {
			t.Errorf("Of(%q) = %08X, want %08X", text, sum, want)
		}
	}
}

func TestOfEachLength(t *testing.T) {
	text := noise(600)
	for n := range len(text) + 1 {
		if sum, want := Of(text[:n]), crc32.ChecksumIEEE([]byte(text[:n])); sum != want {
			t.Errorf("Of of %d bytes = %08X, want %08X", n, sum, want)
		}
	}
}

func TestOfLongText(t *testing.T) {
	text := noise(1 << 20)
	if sum, want := Of(text), crc32.ChecksumIEEE([]byte(text)); sum != want {
		t.Errorf("Of = %08X, want %08X", sum, want)
	}
}

func TestOfNoBytes(t *testing.T) {
	for _, parts := range [][]string{nil, {}, {""}, {"", "", ""}} {
		if sum := Of(parts...); sum != 0 {
			t.Errorf("Of(%q) = %08X, want 0", parts, sum)
		}
	}
}

func TestOfParts(t *testing.T) {
	text := noise(40)
	want := crc32.ChecksumIEEE([]byte(text))
	for i := range len(text) + 1 {
		for k := i; k <= len(text); k++ {
			if sum := Of(text[:i], text[i:k], text[k:]); sum != want {
				t.Errorf("cut at %d and %d: %08X, want %08X", i, k, sum, want)
			}
		}
	}
	if sum := Of("", text[:7], "", "", text[7:], ""); sum != want {
		t.Errorf("with parts without bytes: %08X, want %08X", sum, want)
	}
	if sum := Of(strings.Split(text, "")...); sum != want {
		t.Errorf("in the smallest parts: %08X, want %08X", sum, want)
	}
}

func TestOfPartsInOrder(t *testing.T) {
	if Of("1234", "56789") != 0xCBF43926 || Of("56789", "1234") == 0xCBF43926 {
		t.Error("the order of the parts plays no part")
	}
}

func TestOfLeavesParts(t *testing.T) {
	parts := []string{"lift", "", "shaft", "spare"}
	Of(parts[:3]...)
	if !slices.Equal(parts, []string{"lift", "", "shaft", "spare"}) {
		t.Errorf("the parts became %q", parts)
	}
}

func TestMoreOfSums(t *testing.T) {
	text := noise(300)
	for n := range len(text) + 1 {
		if sum, want := More(Of(text[:n]), text[n:]), Of(text); sum != want {
			t.Errorf("cut at %d: %08X, want %08X", n, sum, want)
		}
	}
}

func TestMoreOfAnySum(t *testing.T) {
	for _, sum := range someSums() {
		for _, text := range []string{"", "\x00", "\xff", "a", "lift", noise(100)} {
			want := crc32.Update(sum, crc32.IEEETable, []byte(text))
			if more := More(sum, text); more != want {
				t.Errorf("More(%08X, %q) = %08X, want %08X", sum, text, more, want)
			}
		}
		if more := More(sum, ""); more != sum {
			t.Errorf("More(%08X, none) = %08X", sum, more)
		}
	}
}

func TestIs(t *testing.T) {
	for _, text := range []string{"", "\x00", "\xff", "a", "123456789", noise(200)} {
		sum := crc32.ChecksumIEEE([]byte(text))
		if !Is(text, sum) {
			t.Errorf("Is(%q, %08X) = false", text, sum)
		}
		for bit := range 32 {
			if wrong := sum ^ 1<<bit; Is(text, wrong) {
				t.Errorf("Is(%q, %08X) = true", text, wrong)
			}
		}
		for _, wrong := range []uint32{sum + 1, sum - 1, ^sum} {
			if Is(text, wrong) {
				t.Errorf("Is(%q, %08X) = true", text, wrong)
			}
		}
	}
}

func TestIsOfOtherTexts(t *testing.T) {
	const sum = 0xCBF43926
	for _, text := range []string{"", "12345678", "1234567890", "123456798", "\x00123456789", "123456789\x00"} {
		if Is(text, sum) {
			t.Errorf("Is(%q, %08X) = true", text, uint32(sum))
		}
	}
}

// P1.2

func TestJoinEachCut(t *testing.T) {
	text := noise(600)
	for n := range len(text) + 1 {
		a, b := Of(text[:n]), Of(text[n:])
		if sum, want := Join(a, b, len(text)-n), Of(text); sum != want {
			t.Errorf("cut at %d: %08X, want %08X", n, sum, want)
		}
	}
}

func TestJoinOfAnySum(t *testing.T) {
	for _, sum := range someSums() {
		for n := range 70 {
			text := noise(n)
			if joint, want := Join(sum, Of(text), n), More(sum, text); joint != want {
				t.Errorf("Join(%08X, that of %d bytes) = %08X, want %08X", sum, n, joint, want)
			}
		}
	}
}

func TestJoinBelowOne(t *testing.T) {
	for _, a := range someSums() {
		for _, b := range someSums() {
			for _, n := range []int{0, -1, -2, -8, math.MinInt32, math.MinInt + 1, math.MinInt} {
				if sum := Join(a, b, n); sum != a {
					t.Errorf("Join(%08X, %08X, %d) = %08X", a, b, n, sum)
				}
			}
		}
	}
}

func TestJoinLongText(t *testing.T) {
	ahead := noise(77)
	for _, n := range []int{1<<16 - 1, 1 << 16, 1<<20 - 1, 1 << 20, 1<<20 + 1} {
		behind := noise(n)
		want := crc32.ChecksumIEEE([]byte(ahead + behind))
		if sum := Join(Of(ahead), Of(behind), n); sum != want {
			t.Errorf("%d bytes: %08X, want %08X", n, sum, want)
		}
	}
}

// The texts of these lengths can't be laid out: but of three texts either two
// neighbours may be joined first.
func TestJoinGreatLengths(t *testing.T) {
	lengths := []int{1, 2, 255, 1 << 20, 1<<30 - 1, math.MaxInt / 4, math.MaxInt/2 - 1}
	sums := someSums()
	for i, n := range lengths {
		for k, m := range lengths {
			a, b, c := sums[i], sums[i+k], sums[len(sums)-1-k]
			left, right := Join(Join(a, b, n), c, m), Join(a, Join(b, c, m), n+m)
			if left != right {
				t.Errorf("lengths %d and %d: %08X and %08X", n, m, left, right)
			}
		}
	}
	a, b, c := sums[3], sums[5], sums[8]
	if Join(Join(a, b, math.MaxInt-1), c, 1) != Join(a, Join(b, c, 1), math.MaxInt) {
		t.Error("the greatest length")
	}
}

// The powers of x come back to 1 after 2^32 - 1 of them, as the polynomial is
// a primitive one: so lengths that differ by as many bytes move alike.
func TestJoinComesRound(t *testing.T) {
	if strconv.IntSize < 64 {
		t.Skip("no such lengths")
	}
	round := int64(math.MaxUint32)
	for _, a := range someSums() {
		if sum := Join(a, 5, int(round)); sum != a^5 {
			t.Errorf("Join(%08X, 5, %d) = %08X", a, round, sum)
		}
		if Join(a, 7, int(round)+9) != Join(a, 7, 9) {
			t.Errorf("9 bytes more than a round: %08X", a)
		}
		if Join(a, 7, math.MaxInt) != Join(a, 7, int(math.MaxInt64%round)) {
			t.Errorf("the greatest length: %08X", a)
		}
	}
}

// P1.3

func TestUnlikeInFewBits(t *testing.T) {
	text := noise(20)
	sum := Of(text)
	for first := range len(text) * 8 {
		if Of(turned(text, first)) == sum {
			t.Errorf("the bit %d plays no part", first)
		}
		for second := first + 1; second < min(first+32, len(text)*8); second++ {
			if Of(turned(text, first, second)) == sum {
				t.Errorf("the bits %d and %d play no part", first, second)
			}
		}
	}
}

func TestUnlikeInManyBits(t *testing.T) {
	for _, text := range []string{noise(4), noise(33), strings.Repeat("\x00", 12), strings.Repeat("\xff", 12)} {
		sum := Of(text)
		for first := range len(text)*8 - 31 {
			for _, pattern := range append(someSums(), 0xEDB88320, 0x04C11DB7, 0xAAAAAAAA, 0x55555555) {
				if pattern == 0 {
					continue
				}
				if Of(turned(text, placesOf(pattern, first)...)) == sum {
					t.Errorf("%q: turned from %d on by %08X, and has the same sum", text, first, pattern)
				}
			}
		}
	}
}

// placesOf are the places of the bits of pattern, the lowest one at first.
func placesOf(pattern uint32, first int) []int {
	var places []int
	for bit := range 32 {
		if pattern>>bit&1 == 1 {
			places = append(places, first+bit)
		}
	}
	return places
}

// What a difference does to the sum is put together, by xor, of what its bits
// do: so if that of no 32 bits in a row is made of the others', none of the
// 2^32 - 1 differences in these bits goes unseen.
func TestUnlikeInAnyBitsOfARow(t *testing.T) {
	for _, text := range []string{noise(4), noise(9), noise(64)} {
		sum := Of(text)
		for first := range len(text)*8 - 31 {
			var effects []uint32
			for bit := range 32 {
				effects = append(effects, Of(turned(text, first+bit))^sum)
			}
			if !independent(effects) {
				t.Errorf("%d bytes: some difference from the bit %d on goes unseen", len(text), first)
			}
		}
	}
}

// independent tells whether no xor of some of the words is 0.
func independent(words []uint32) bool {
	var leads [32]uint32
	for _, word := range words {
		for bit := 31; bit >= 0 && word != 0; bit-- {
			if word>>bit&1 == 0 {
				continue
			}
			if leads[bit] == 0 {
				leads[bit] = word
				break
			}
			word ^= leads[bit]
		}
		if word == 0 {
			return false
		}
	}
	return true
}

func TestEffectsAddUp(t *testing.T) {
	text := noise(16)
	sum := Of(text)
	for first := range len(text)*8 - 31 {
		for _, pattern := range someSums() {
			places := placesOf(pattern, first)
			want := sum
			for _, place := range places {
				want ^= Of(turned(text, place)) ^ sum
			}
			if got := Of(turned(text, places...)); got != want {
				t.Errorf("from %d on by %08X: %08X, want %08X", first, pattern, got, want)
			}
		}
	}
}

// P1

func TestNothingIsKept(t *testing.T) {
	before := Of("lift")
	More(7, noise(50))
	Join(1, 2, math.MaxInt)
	Is("lift", 0)
	if Of("lift") != before {
		t.Error("the same call answers something else")
	}
}

func FuzzSums(f *testing.F) {
	f.Add("", "", uint32(0), 0)
	f.Add("1234", "56789", uint32(0xCBF43926), 5)
	f.Add("\xff", "\x00\x00", uint32(math.MaxUint32), math.MaxInt)
	f.Add("a", "", uint32(1), math.MinInt)
	f.Fuzz(func(t *testing.T, ahead, behind string, sum uint32, n int) {
		want := crc32.ChecksumIEEE([]byte(ahead + behind))
		if Of(ahead, behind) != want || More(Of(ahead), behind) != want || Join(Of(ahead), Of(behind), len(behind)) != want {
			t.Errorf("%q and %q: not %08X", ahead, behind, want)
		}
		if Is(ahead+behind, sum) != (sum == want) {
			t.Errorf("Is(%q, %08X)", ahead+behind, sum)
		}
		if joint := Join(sum, want, n); n < 1 && joint != sum {
			t.Errorf("Join(%08X, %08X, %d) = %08X", sum, want, n, joint)
		}
	})
}
