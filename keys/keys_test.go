package keys

import (
	"math"
	"math/rand"
	"slices"
	"strings"
	"testing"

	"hoistway/api"
	"hoistway/site"
)

// ends are numbers that are no tick, no principal and no half of a key.
func ends() []int {
	return []int{-1, -2, -1 << 30, math.MinInt, math.MinInt + 1, math.MinInt32, math.MinInt32 - 1, -1 << 32, 1 - 1<<32, 1 << 32, 1<<32 + 1, 1<<32 + 10, 1 << 62, math.MaxInt - 1, math.MaxInt}
}

// server is a small one with that many keys, that are good for so many ticks.
func server(keys, window int) api.Config {
	c := site.Small()
	c.Keys, c.Window = keys, window
	return c
}

// servers are some that can be.
func servers() []api.Config {
	return []api.Config{site.Small(), server(1, 1), server(1, 20), server(2, 3), server(3, 1), server(64, 1<<16), server(64, 1), server(5, 7)}
}

// noServers can't be, most of them for a number that no key has to do with.
func noServers() []api.Config {
	list := []api.Config{{}, server(0, 20), server(65, 20), server(4, 0), server(4, 1<<16+1), server(math.MaxInt, math.MaxInt), {Keys: 4, Window: 20}, {Secret: 7}}
	for _, name := range site.Names() {
		for _, n := range []int{-1, math.MinInt, math.MaxInt} {
			c, _ := site.Set(site.Small(), name, n)
			list = append(list, c)
		}
	}
	return list
}

// wantLook is what Look is to answer.
func wantLook(t testing.TB, k Keys, now, who int, key uint64, body string, wanted string, wantedVerdict Verdict) {
	t.Helper()
	if answer, v := k.Look(now, who, key, body); answer != wanted || v != wantedVerdict {
		t.Fatalf("Look(%d, %d, %x, %q) = %q, %d, want %q, %d", now, who, key, body, answer, v, wanted, wantedVerdict)
	}
}

// wantRefused is a key with a verdict but New, with which nothing can be.
func wantRefused(t testing.TB, k Keys, now, who int, key uint64, body string, wanted string, wantedVerdict Verdict) {
	t.Helper()
	wantLook(t, k, now, who, key, body, wanted, wantedVerdict)
	next, err := k.With(now, who, key, body, "never")
	if err != api.ErrState || next != (Keys{}) {
		t.Fatalf("With(%d, %d, %x, %q) = %+v, %d, want none, %d", now, who, key, body, next, err, api.ErrState)
	}
}

// wantCount is how many are to count.
func wantCount(t testing.TB, k Keys, now, wanted int) {
	t.Helper()
	if n := k.Count(now); n != wanted {
		t.Fatalf("Count(%d) = %d, want %d", now, n, wanted)
	}
}

// wantEqual holds two against each other, from both sides.
func wantEqual(t testing.TB, a, b Keys, wanted bool) {
	t.Helper()
	if Equal(a, b) != wanted || Equal(b, a) != wanted {
		t.Fatalf("Equal(%+v, %+v) = %t, %t, want %t", a, b, Equal(a, b), Equal(b, a), wanted)
	}
}

// with is k with one entry more, that has to be New.
func with(t testing.TB, k Keys, now, who int, key uint64, body, answer string) Keys {
	t.Helper()
	wantLook(t, k, now, who, key, body, "", New)
	next, err := k.With(now, who, key, body, answer)
	if err != api.OK {
		t.Fatalf("With(%d, %d, %x, %q) = %d", now, who, key, body, err)
	}
	return next
}

// wantZero is keys of which all is Late.
func wantZero(t testing.TB, k Keys) {
	t.Helper()
	if k != (Keys{}) {
		t.Fatalf("%+v, want the zero keys", k)
	}
	wantEqual(t, k, Keys{}, true)
	for _, now := range append(ends(), 0, 1, 5, 20, 1<<30) {
		wantCount(t, k, now, 0)
		for _, key := range []uint64{0, 1, Key(1, 0), Key(5, 3), Key(20, 1), Key(1<<30, 0), math.MaxUint64} {
			wantRefused(t, k, now, 1, key, "", "", Late)
			wantRefused(t, k, now, 1<<30, key, "b", "", Late)
			wantRefused(t, k, now, now, key, "b", "", Late)
		}
	}
}

// The chapter's words, written anew

// asked is an entry.
type asked struct {
	who, stamp, n int
	body, answer  string
}

// model is keys as a plain list, that is never written to.
type model struct {
	conf api.Config
	list []asked
}

// counting are those that count at a tick.
func (m model) counting(now int) []asked {
	list := []asked{}
	for _, x := range m.list {
		if now <= x.stamp+m.conf.Window {
			list = append(list, x)
		}
	}
	return list
}

func (m model) look(now, who, stamp, n int, body string) (string, Verdict) {
	isGood := site.Check(m.conf) == api.OK && now >= stamp && now-stamp <= m.conf.Window
	if !isGood || who < 1 || who > 1<<30 || now < 0 || now > 1<<30 {
		return "", Late
	}
	list := m.counting(now)
	for _, x := range list {
		if x.who == who && x.stamp == stamp && x.n == n {
			if x.body != body {
				return "", Other
			}
			return x.answer, Same
		}
	}
	if len(list) == m.conf.Keys {
		return "", Full
	}
	return "", New
}

func (m model) with(now int, x asked) (model, api.Errno) {
	if _, v := m.look(now, x.who, x.stamp, x.n, x.body); v != New {
		return model{}, api.ErrState
	}
	m.list = append(m.counting(now), x)
	return m, api.OK
}

// same: whether two have the same entries, in any order.
func (m model) same(n model) bool {
	if len(m.list) != len(n.list) {
		return false
	}
	for _, x := range m.list {
		if !slices.Contains(n.list, x) {
			return false
		}
	}
	return m.conf == n.conf
}

// want holds all that keys tell against a model.
func want(t testing.TB, k Keys, m model) {
	t.Helper()
	for _, now := range []int{math.MinInt, -1, 0, math.MaxInt} {
		wantCount(t, k, now, len(m.counting(now)))
	}
	for _, x := range m.list {
		last := x.stamp + m.conf.Window
		for _, now := range []int{x.stamp - 1, x.stamp, x.stamp + 1, last - 1, last, last + 1} {
			wantCount(t, k, now, len(m.counting(now)))
			for _, who := range []int{x.who, x.who + 1, x.who - 1} {
				for _, body := range []string{x.body, x.body + "x"} {
					answer, v := m.look(now, who, x.stamp, x.n, body)
					wantLook(t, k, now, who, Key(x.stamp, x.n), body, answer, v)
				}
			}
		}
	}
}

// P10.1

func TestMake(t *testing.T) {
	for _, c := range servers() {
		k := Make(c)
		want(t, k, model{conf: c})
		wantEqual(t, k, Make(c), true)
		wantEqual(t, k, Keys{}, false)
		for _, now := range []int{0, 1, 20, 1 << 16, 1 << 30} {
			wantLook(t, k, now, 1, Key(now, 0), "b", "", New)
			wantCount(t, k, now, 0)
		}
	}
}

func TestMakeOfWhatCantBe(t *testing.T) {
	for _, c := range noServers() {
		wantZero(t, Make(c))
	}
	wantZero(t, Keys{})
}

func TestKey(t *testing.T) {
	for _, x := range []struct {
		stamp, n int
		want     uint64
	}{
		{0, 0, 0}, {0, 1, 1}, {1, 0, 0x1_0000_0000}, {5, 7, 0x5_0000_0007}, {0x12345678, 0x9ABCDEF0, 0x12345678_9ABCDEF0},
		{0, math.MaxUint32, math.MaxUint32}, {math.MaxUint32, 0, 0xFFFFFFFF_00000000}, {math.MaxUint32, math.MaxUint32, math.MaxUint64},
		{1 << 31, 1 << 31, 0x80000000_80000000}, {math.MaxInt32, math.MaxInt32, 0x7FFFFFFF_7FFFFFFF}, {1 << 30, 3, 0x40000000_00000003},
	} {
		if key := Key(x.stamp, x.n); key != x.want {
			t.Errorf("Key(%d, %d) = %x, want %x", x.stamp, x.n, key, x.want)
		}
		if stamp := Stamp(x.want); stamp != x.stamp {
			t.Errorf("Stamp(%x) = %d, want %d", x.want, stamp, x.stamp)
		}
	}
}

func TestKeyOfWhatCantBe(t *testing.T) {
	for _, n := range ends() {
		for _, good := range []int{0, 1, 5, math.MaxUint32} {
			if Key(n, good) != 0 || Key(good, n) != 0 || Key(n, n) != 0 {
				t.Errorf("Key of %d and %d = %x, %x, %x", n, good, Key(n, good), Key(good, n), Key(n, n))
			}
		}
	}
}

func TestStampIsTheHighestBits(t *testing.T) {
	for bit := range 64 {
		wanted := 0
		if bit >= 32 {
			wanted = 1 << (bit - 32)
		}
		if stamp := Stamp(1 << bit); stamp != wanted {
			t.Errorf("Stamp(%x) = %d, want %d", uint64(1)<<bit, stamp, wanted)
		}
	}
}

// wantGood is whether a key is to be good.
func wantGood(t testing.TB, c api.Config, key uint64, now int, wanted bool) {
	t.Helper()
	if is := IsGood(c, key, now); is != wanted {
		t.Fatalf("IsGood(%x, %d) = %t with the window %d", key, now, is, c.Window)
	}
}

func TestIsGood(t *testing.T) {
	for _, window := range []int{1, 2, 20, 1<<16 - 1, 1 << 16} {
		c := server(4, window)
		for _, stamp := range []int{0, 1, 5, 1 << 16, 1 << 30, math.MaxInt32, 1 << 31, math.MaxUint32 - 1, math.MaxUint32} {
			for _, n := range []int{0, 1, 1 << 31, math.MaxUint32} {
				key := Key(stamp, n)
				wantGood(t, c, key, stamp-1, false)
				wantGood(t, c, key, stamp, true)
				wantGood(t, c, key, stamp+1, true)
				wantGood(t, c, key, stamp+window-1, true)
				wantGood(t, c, key, stamp+window, true)
				wantGood(t, c, key, stamp+window+1, false)
				for _, now := range []int{math.MinInt, math.MinInt32, -1, 1 << 33, math.MaxInt - window, math.MaxInt} {
					wantGood(t, c, key, now, false)
				}
			}
		}
	}
}

func TestIsGoodInTheExample(t *testing.T) {
	key := Key(5, 3)
	for now := range 100 {
		wantGood(t, site.Small(), key, now, now >= 5 && now <= 25)
	}
}

func TestIsGoodOfWhatCantBe(t *testing.T) {
	for _, c := range noServers() {
		for _, now := range append(ends(), 0, 1, 5, 20, 1<<30) {
			wantGood(t, c, 0, now, false)
			wantGood(t, c, Key(5, 1), now, false)
			wantGood(t, c, uint64(now), now, false)
			wantGood(t, c, math.MaxUint64, now, false)
		}
	}
}

// P10.2

func TestLookIsNewAsLongAsTheKeyIsGood(t *testing.T) {
	for _, c := range servers() {
		k := Make(c)
		for _, stamp := range []int{0, 1, 5, 1000, 1<<30 - 1, 1 << 30} {
			last := stamp + c.Window
			for _, now := range []int{stamp - 1, stamp, stamp + 1, last - 1, last, last + 1} {
				if now >= stamp && now <= last && now <= 1<<30 {
					wantLook(t, k, now, 1, Key(stamp, 3), "b", "", New)
				} else {
					wantRefused(t, k, now, 1, Key(stamp, 3), "b", "", Late)
				}
			}
		}
	}
}

func TestLookOfPrincipals(t *testing.T) {
	k := Make(site.Small())
	for _, who := range []int{1, 2, 1<<30 - 1, 1 << 30} {
		with(t, k, 10, who, Key(10, 1), "b", "a")
	}
	k = with(t, k, 10, 1, Key(10, 1), "b", "a")
	for _, who := range append(ends(), 0, 1<<30+1, 1<<31, 1<<31+1) {
		wantRefused(t, k, 10, who, Key(10, 1), "b", "", Late)
		wantRefused(t, k, 10, who, Key(10, 2), "b", "", Late)
	}
}

func TestLookOfTicks(t *testing.T) {
	k := Make(server(4, 1<<16))
	for _, now := range append(ends(), 1<<30+1, 1<<31, math.MaxUint32) {
		wantRefused(t, k, now, 1, Key(0, 1), "b", "", Late)
		wantRefused(t, k, now, 1, Key(1<<30, 1), "b", "", Late)
		wantRefused(t, k, now, 1, Key(now, 1), "b", "", Late)
		wantRefused(t, k, now, 1, uint64(now)<<32, "b", "", Late)
	}
	// A key with a stamp that is no tick is never good.
	for _, stamp := range []int{1<<30 + 1, 1 << 31, math.MaxUint32} {
		wantRefused(t, k, 1<<30, 1, Key(stamp, 0), "b", "", Late)
		wantRefused(t, k, stamp, 1, Key(stamp, 0), "b", "", Late)
	}
	k = with(t, k, 1<<30, 1, Key(1<<30, 1), "b", "a")
	k = with(t, k, 0, 1, Key(0, 1), "b", "c")
	wantRefused(t, k, 1<<30, 1, Key(1<<30, 1), "b", "a", Same)
	wantRefused(t, k, 0, 1, Key(0, 1), "b", "c", Same)
	wantRefused(t, k, 1<<30+1, 1, Key(1<<30, 1), "b", "", Late)
	wantRefused(t, k, -1, 1, Key(0, 1), "b", "", Late)
}

// texts are bodies and answers, each another one.
func texts() []string {
	return []string{"", "b", "B", "bb", "\x00", "\x00\x00", "b\x00", "\xff\xfe", "0123456789", strings.Repeat("b", 1<<11), strings.Repeat("b", 1<<17)}
}

func TestLookOfBodies(t *testing.T) {
	for i, body := range texts() {
		for j, answer := range texts() {
			k := with(t, Make(site.Small()), 10, 1, Key(10, 1), body, answer)
			wantRefused(t, k, 10, 1, Key(10, 1), texts()[i], answer, Same)
			if i == j {
				continue
			}
			wantRefused(t, k, 10, 1, Key(10, 1), texts()[j], "", Other)
		}
	}
}

func TestLookIsSameTillTheWindowEnds(t *testing.T) {
	for _, c := range servers() {
		k := with(t, Make(c), 100, 7, Key(100, 9), "b", "a")
		last := 100 + c.Window
		for _, now := range []int{100, 101, last - 1, last} {
			wantRefused(t, k, now, 7, Key(100, 9), "b", "a", Same)
			wantRefused(t, k, now, 7, Key(100, 9), "", "", Other)
		}
		for _, now := range []int{0, 98, 99, last + 1, last + 2, 1 << 30} {
			wantRefused(t, k, now, 7, Key(100, 9), "b", "", Late)
			wantRefused(t, k, now, 7, Key(100, 9), "", "", Late)
		}
	}
}

// What was asked late in the window is asked for till its end all the same.
func TestLookOfWhatWasAskedLate(t *testing.T) {
	k := with(t, Make(site.Small()), 25, 7, Key(5, 9), "b", "a")
	for _, now := range []int{5, 15, 25} {
		wantRefused(t, k, now, 7, Key(5, 9), "b", "a", Same)
	}
	wantRefused(t, k, 26, 7, Key(5, 9), "b", "", Late)
	wantCount(t, k, 25, 1)
	wantCount(t, k, 26, 0)
}

func TestLookOfUnlikeKeys(t *testing.T) {
	const now, who, key = 1<<16 - 1, 5, uint64(21)<<32 | 77
	k := with(t, Make(server(64, 1<<16)), now, who, key, "b", "a")
	for bit := range 64 {
		other := key ^ 1<<bit
		if Stamp(other) <= now {
			wantLook(t, k, now, who, other, "b", "", New)
		} else {
			wantRefused(t, k, now, who, other, "b", "", Late)
		}
	}
	for bit := range 30 {
		if other := who ^ 1<<bit; other != 0 {
			wantLook(t, k, now, other, key, "b", "", New)
		}
	}
}

// Who and key are told from each other, whatever of one is next to the other.
func TestLookOfWhoAndKeyAreTwoNumbers(t *testing.T) {
	list := []asked{{1, 2, 3, "b", "0"}, {2, 1, 3, "b", "1"}, {1, 3, 2, "b", "2"}, {3, 2, 1, "b", "3"}, {256, 2, 3, "b", "4"}, {1, 0, 515, "b", "5"}, {1, 2, 768, "b", "6"}, {1, 2, 1 << 31, "b", "7"}}
	k := Make(server(len(list), 20))
	for _, x := range list {
		k = with(t, k, 10, x.who, Key(x.stamp, x.n), x.body, x.answer)
	}
	for _, x := range list {
		wantRefused(t, k, 10, x.who, Key(x.stamp, x.n), x.body, x.answer, Same)
	}
	wantCount(t, k, 10, len(list))
}

func TestLookTillFull(t *testing.T) {
	for _, c := range servers() {
		k := Make(c)
		for i := range c.Keys {
			wantCount(t, k, 10, i)
			k = with(t, k, 10, 1+i%3, Key(10, i), "b", "a")
		}
		wantCount(t, k, 10, c.Keys)
		wantRefused(t, k, 10, 1, Key(10, c.Keys), "b", "", Full)
		wantRefused(t, k, 10, 9, Key(10, 0), "b", "", Full)
		wantRefused(t, k, 10, 9, Key(9, 0), "b", "", Full)
		// What is asked anew is told ahead of that there is no room, and Late ahead of all.
		wantRefused(t, k, 10, 1, Key(10, 0), "b", "a", Same)
		wantRefused(t, k, 10, 1, Key(10, 0), "c", "", Other)
		wantRefused(t, k, 10, 1, Key(11, 0), "b", "", Late)
		wantRefused(t, k, 10, 0, Key(10, 0), "b", "", Late)
		wantRefused(t, k, 10+c.Window, 1, Key(10+c.Window, 0), "b", "", Full)
		with(t, k, 11+c.Window, 1, Key(11+c.Window, 0), "b", "a")
	}
}

// An entry counts ahead of its stamp too, and takes room there.
func TestLookIsFullAtAnEarlierTick(t *testing.T) {
	k := with(t, Make(server(1, 20)), 100, 1, Key(100, 0), "b", "a")
	wantCount(t, k, 0, 1)
	wantRefused(t, k, 0, 1, Key(0, 0), "b", "", Full)
	wantRefused(t, k, 99, 1, Key(90, 0), "b", "", Full)
	wantRefused(t, k, 99, 1, Key(100, 0), "b", "", Late)
}

func TestLookAsEntriesEndOneByOne(t *testing.T) {
	k := Make(server(3, 4))
	for i := range 3 {
		k = with(t, k, 10+i, 1, Key(10+i, 0), "b", "a")
	}
	for now, left := range map[int]int{12: 3, 14: 3, 15: 2, 16: 1, 17: 0} {
		wantCount(t, k, now, left)
		if left == 3 {
			wantRefused(t, k, now, 2, Key(now, 0), "b", "", Full)
		} else {
			with(t, k, now, 2, Key(now, 0), "b", "a")
		}
	}
}

// P10.3

func TestWith(t *testing.T) {
	for _, c := range servers() {
		k, err := Make(c).With(10, 5, Key(10, 6), "body", "answer")
		if err != api.OK {
			t.Fatal(err)
		}
		want(t, k, model{c, []asked{{5, 10, 6, "body", "answer"}}})
	}
}

func TestWithLeavesWhatItWasMadeOf(t *testing.T) {
	c := server(4, 20)
	none := Make(c)
	one := with(t, none, 10, 1, Key(10, 0), "b", "a")
	two := with(t, one, 12, 1, Key(12, 0), "b", "c")
	other := with(t, one, 31, 1, Key(31, 0), "b", "d")
	want(t, none, model{conf: c})
	want(t, one, model{c, []asked{{1, 10, 0, "b", "a"}}})
	want(t, two, model{c, []asked{{1, 10, 0, "b", "a"}, {1, 12, 0, "b", "c"}}})
	want(t, other, model{c, []asked{{1, 31, 0, "b", "d"}}})
	if next, err := two.With(12, 1, Key(12, 0), "b", "c"); err != api.ErrState || next != (Keys{}) {
		t.Fatal(err)
	}
	want(t, two, model{c, []asked{{1, 10, 0, "b", "a"}, {1, 12, 0, "b", "c"}}})
}

// What doesn't count any more is there till a With, and then let go.
func TestWithLetsGo(t *testing.T) {
	k := Make(server(4, 20))
	for i := range 4 {
		k = with(t, k, 10+i, 1, Key(10+i, 0), "b", "a")
	}
	wantCount(t, k, 32, 2)
	wantCount(t, k, 30, 4)
	wantRefused(t, k, 32, 1, Key(11, 0), "b", "", Late)
	wantRefused(t, k, 31, 1, Key(11, 0), "b", "a", Same)
	k = with(t, k, 32, 2, Key(30, 0), "x", "y")
	wantCount(t, k, 32, 3)
	wantCount(t, k, 30, 3)
	wantCount(t, k, 0, 3)
	wantLook(t, k, 31, 1, Key(11, 0), "b", "", New)
	wantRefused(t, k, 32, 1, Key(12, 0), "b", "a", Same)
	wantRefused(t, k, 32, 1, Key(13, 0), "b", "a", Same)
	wantRefused(t, k, 32, 2, Key(30, 0), "x", "y", Same)
}

// Nobody who is refused lets anything go.
func TestWithThatIsRefusedLetsNothingGo(t *testing.T) {
	k := Make(server(2, 20))
	k = with(t, k, 10, 1, Key(10, 0), "b", "a")
	k = with(t, k, 20, 1, Key(20, 0), "b", "a")
	wantRefused(t, k, 31, 1, Key(20, 0), "b", "a", Same)
	wantRefused(t, k, 31, 1, Key(20, 0), "c", "", Other)
	wantRefused(t, k, 31, 1, Key(10, 0), "b", "", Late)
	wantCount(t, k, 30, 2)
	wantRefused(t, k, 30, 1, Key(10, 0), "b", "a", Same)
	wantRefused(t, k, 30, 2, Key(30, 0), "b", "", Full)
}

// A With at an earlier tick keeps what counts then, however late its stamp.
func TestWithAtAnEarlierTick(t *testing.T) {
	k := with(t, Make(server(2, 20)), 100, 1, Key(100, 0), "b", "a")
	k = with(t, k, 5, 1, Key(5, 0), "c", "d")
	wantCount(t, k, 25, 2)
	wantCount(t, k, 26, 1)
	wantRefused(t, k, 100, 1, Key(100, 0), "b", "a", Same)
	wantRefused(t, k, 5, 1, Key(5, 0), "c", "d", Same)
	wantRefused(t, k, 5, 1, Key(5, 1), "c", "", Full)
}

func TestCountOfAnyTick(t *testing.T) {
	k := with(t, Make(server(4, 20)), 1<<30, 1, Key(1<<30, 0), "b", "a")
	k = with(t, k, 1<<30, 1, Key(1<<30-1, 0), "b", "a")
	for _, now := range []int{math.MinInt, math.MinInt32, -1, 0, 1, 1 << 30, 1<<30 + 19} {
		wantCount(t, k, now, 2)
	}
	wantCount(t, k, 1<<30+20, 1)
	for _, now := range []int{1<<30 + 21, 1 << 32, math.MaxInt - 20, math.MaxInt} {
		wantCount(t, k, now, 0)
	}
}

func TestEqualOfConfigurations(t *testing.T) {
	a := Make(site.Small())
	wantEqual(t, a, Make(site.Small()), true)
	wantEqual(t, Keys{}, Make(api.Config{}), true)
	for _, name := range site.Names() {
		n, _ := site.Get(site.Small(), name)
		for _, m := range []int{n - 1, n + 1} {
			c, _ := site.Set(site.Small(), name, m)
			wantEqual(t, a, Make(c), false)
			if site.Check(c) == api.OK {
				wantEqual(t, with(t, a, 9, 1, Key(9, 0), "b", "a"), with(t, Make(c), 9, 1, Key(9, 0), "b", "a"), false)
			}
		}
	}
	c := site.Small()
	c.Secret++
	wantEqual(t, a, Make(c), false)
}

func TestEqualOfEntries(t *testing.T) {
	none := Make(site.Small())
	list := []Keys{none}
	for _, x := range []asked{{1, 10, 0, "b", "a"}, {2, 10, 0, "b", "a"}, {1, 9, 0, "b", "a"}, {1, 10, 1, "b", "a"}, {1, 10, 0, "a", "b"}, {1, 10, 0, "b", ""}, {1, 10, 0, "", "a"}, {1, 10, 0, "ba", ""}, {1, 10, 0, "", "ba"}} {
		k := with(t, none, 10, x.who, Key(x.stamp, x.n), x.body, x.answer)
		list = append(list, k, with(t, k, 10, 3, Key(10, 0), "b", "a"))
	}
	for i, a := range list {
		for j, b := range list {
			wantEqual(t, a, b, i == j)
		}
	}
}

// In which order, and at which ticks, entries came is not told.
func TestEqualOfOtherWays(t *testing.T) {
	none := Make(server(4, 20))
	a := with(t, with(t, none, 10, 1, Key(10, 0), "b", "a"), 12, 2, Key(11, 0), "c", "d")
	b := with(t, with(t, none, 11, 2, Key(11, 0), "c", "d"), 30, 1, Key(10, 0), "b", "a")
	wantEqual(t, a, b, true)
	// What was let go isn't either, but what wasn't yet is.
	wantEqual(t, with(t, a, 31, 1, Key(31, 0), "b", "a"), with(t, b, 31, 1, Key(31, 0), "b", "a"), true)
	late := with(t, with(t, none, 11, 2, Key(11, 0), "c", "d"), 31, 1, Key(31, 0), "b", "a")
	wantEqual(t, with(t, a, 31, 1, Key(31, 0), "b", "a"), late, true)
	wantEqual(t, with(t, a, 30, 1, Key(30, 0), "b", "a"), with(t, with(t, none, 11, 2, Key(11, 0), "c", "d"), 30, 1, Key(30, 0), "b", "a"), false)
}

// P10.4

func TestNothingIsNewTwice(t *testing.T) {
	for _, c := range []api.Config{server(3, 4), server(1, 1), server(64, 7)} {
		k := Make(c)
		list := []asked{}
		for now := range 60 {
			for who := 1; who <= 2; who++ {
				x := asked{who, max(0, now-who*now%3), now % 2, "b", string(rune('a' + now%26))}
				next, err := k.With(now, x.who, Key(x.stamp, x.n), x.body, x.answer)
				if err == api.OK {
					k = next
					list = append(list, x)
				}
			}
			wantOnce(t, k, list, now)
		}
		if len(list) < 20 {
			t.Fatalf("only %d entries came", len(list))
		}
	}
}

// wantOnce holds all that ever came against Look, from a tick on.
func wantOnce(t testing.TB, k Keys, list []asked, now int) {
	t.Helper()
	for _, x := range list {
		key, last := Key(x.stamp, x.n), x.stamp+k.conf.Window
		for _, at := range []int{now, now + 1, last, last + 1, last + 2, 1 << 30} {
			switch {
			case at < now:
			case at <= last:
				wantRefused(t, k, at, x.who, key, x.body, x.answer, Same)
				wantRefused(t, k, at, x.who, key, x.body+"x", "", Other)
			default:
				wantRefused(t, k, at, x.who, key, x.body, "", Late)
				wantRefused(t, k, at, x.who, key, x.body+"x", "", Late)
			}
		}
	}
}

// Keys by chance

// dice are numbers out of bytes; 0, when there are no more.
type dice struct{ bytes []byte }

func (d *dice) roll(n int) int {
	if len(d.bytes) == 0 {
		return 0
	}
	b := int(d.bytes[0])
	d.bytes = d.bytes[1:]
	return b % n
}

// some is a number from 0 on, or, seldom, one that can't be.
func (d *dice) some(n int) int {
	if d.roll(40) == 39 {
		return ends()[d.roll(len(ends()))]
	}
	return d.roll(n)
}

// ask is what could be asked at a tick, most times.
func (d *dice) ask(c api.Config, now int) asked {
	back := d.roll(min(c.Window, 12) + 2)
	if d.roll(16) == 15 {
		back = c.Window + d.roll(3) - 1
	}
	stamp := now + d.roll(9)/8 - back
	x := asked{who: 1 + d.some(3), stamp: min(max(0, stamp), math.MaxUint32), n: d.roll(3), body: texts()[d.roll(3)], answer: texts()[d.roll(4)]}
	if d.roll(40) == 39 {
		x.n = math.MaxUint32 - x.n
	}
	return x
}

// run is deeds out of bytes, on keys and on a model.
type run struct {
	t      testing.TB
	dice   *dice
	now    int
	keys   Keys
	model  model
	older  Keys
	before model
	seen   map[Verdict]int
}

// ask is what could be asked at a tick, now and then once more.
func (r *run) ask(at int) asked {
	x := r.dice.ask(r.model.conf, at)
	if len(r.model.list) == 0 || r.dice.roll(4) != 3 {
		return x
	}
	again := r.model.list[r.dice.roll(len(r.model.list))]
	if r.dice.roll(3) == 2 {
		again.body = x.body
	}
	return again
}

// step does one deed, and holds both against each other.
func (r *run) step() {
	r.t.Helper()
	r.now += r.dice.roll(3) / 2
	at := r.now
	if r.dice.roll(12) == 11 {
		at = r.dice.some(r.now + 4)
	}
	x := r.ask(at)
	answer, v := r.model.look(at, x.who, x.stamp, x.n, x.body)
	wantLook(r.t, r.keys, at, x.who, Key(x.stamp, x.n), x.body, answer, v)
	r.seen[v]++
	if at != r.now && r.dice.roll(4) != 0 {
		return
	}
	k, err := r.keys.With(at, x.who, Key(x.stamp, x.n), x.body, x.answer)
	m, wantedErr := r.model.with(at, x)
	if err != wantedErr {
		r.t.Fatalf("With(%d, %+v) = %d, want %d", at, x, err, wantedErr)
	}
	want(r.t, k, m)
	if err != api.OK {
		wantEqual(r.t, k, Keys{}, true)
		return
	}
	wantEqual(r.t, k, r.older, m.same(r.before))
	r.older, r.before = r.keys, r.model
	r.keys, r.model = k, m
}

// runOf plays bytes to their end.
func runOf(t testing.TB, c api.Config, bytes []byte) *run {
	t.Helper()
	r := &run{t: t, dice: &dice{bytes}, keys: Make(c), older: Make(c), seen: map[Verdict]int{}}
	r.model, r.before = model{conf: c}, model{conf: c}
	for len(r.dice.bytes) > 0 {
		r.step()
		if len(r.model.list) > c.Keys {
			t.Fatalf("%d entries, where there is room for %d", len(r.model.list), c.Keys)
		}
	}
	want(t, r.keys, r.model)
	want(t, r.older, r.before)
	r.wantRebuilt()
	return r
}

// wantRebuilt: the same entries, come the other way round, are the same keys.
func (r *run) wantRebuilt() {
	r.t.Helper()
	k := Make(r.model.conf)
	for _, x := range slices.Backward(r.model.list) {
		// At its own stamp each key is good, and all others of the list count or were kept by then.
		next, err := k.With(x.stamp, x.who, Key(x.stamp, x.n), x.body, x.answer)
		if err != api.OK {
			r.t.Fatalf("With(%d, %+v) = %d", x.stamp, x, err)
		}
		k = next
	}
	m := model{conf: r.model.conf}
	for _, x := range slices.Backward(r.model.list) {
		m.list = append(m.counting(x.stamp), x)
	}
	want(r.t, k, m)
	wantEqual(r.t, k, r.keys, m.same(r.model))
}

func TestKeysByChance(t *testing.T) {
	source := rand.New(rand.NewSource(10))
	seen := map[Verdict]int{}
	for i := range 40 {
		bytes := make([]byte, 1200)
		source.Read(bytes)
		r := runOf(t, servers()[i%len(servers())], bytes)
		for v, n := range r.seen {
			seen[v] += n
		}
	}
	for v := New; v <= Full; v++ {
		if seen[v] < 100 {
			t.Fatalf("only %d keys were %d", seen[v], v)
		}
	}
}

func FuzzKeys(f *testing.F) {
	f.Add(0, []byte{})
	f.Add(1, []byte("0123456789"))
	f.Add(3, []byte{0, 1, 0, 0, 0, 0, 0, 1, 1, 1, 0, 2, 0, 0, 0, 0, 0, 0, 1, 1, 1, 0})
	f.Add(-1, []byte{2, 11, 3, 0, 2, 15, 1, 8, 2, 39, 1, 1, 1, 1, 39})
	f.Fuzz(func(t *testing.T, which int, bytes []byte) {
		list := append(servers(), server(0, 20))
		runOf(t, list[uint(which)%uint(len(list))], bytes[:min(len(bytes), 600)])
	})
}

func FuzzLook(f *testing.F) {
	f.Add(4, 20, 10, 1, uint64(10)<<32, "b", "a", 30, 1, uint64(10)<<32, "b")
	f.Add(1, 1, 0, 1, uint64(0), "", "", 1, 2, uint64(1), "")
	f.Add(64, 1<<16, 1<<30, 1<<30, uint64(1)<<62, "b", "a", 1<<30, 1<<30, uint64(1)<<62|1, "c")
	f.Add(0, 20, -1, 0, uint64(math.MaxUint64), "b", "a", math.MaxInt, math.MinInt, uint64(1), "c")
	f.Fuzz(func(t *testing.T, keys, window, now, who int, key uint64, body, answer string, at, whose int, other uint64, otherBody string) {
		k, m := Make(server(keys, window)), model{conf: server(keys, window)}
		half := func(key uint64) (int, int) { return int(key >> 32), int(key & math.MaxUint32) }
		stamp, n := half(key)
		if Key(stamp, n) != key || Stamp(key) != stamp {
			t.Fatalf("Key(%d, %d) = %x, want %x", stamp, n, Key(stamp, n), key)
		}
		next, err := k.With(now, who, key, body, answer)
		after, wantedErr := m.with(now, asked{who, stamp, n, body, answer})
		if err != wantedErr {
			t.Fatalf("With = %d, want %d", err, wantedErr)
		}
		want(t, next, after)
		want(t, k, m)
		stamp, n = half(other)
		wanted, v := after.look(at, whose, stamp, n, otherBody)
		wantLook(t, next, at, whose, other, otherBody, wanted, v)
		wantGood(t, m.conf, other, at, site.Check(m.conf) == api.OK && stamp <= at && at <= stamp+window)
	})
}
