package bucket

import (
	"math"
	"math/rand"
	"sort"
	"testing"

	"hoistway/api"
	"hoistway/site"
)

// most is the last tick.
const most = 1073741824

// server is a small one with that Burst and that Rate.
func server(burst, rate int) api.Config {
	c := site.Small()
	c.Burst, c.Rate = burst, rate
	return c
}

// servers are some that can be.
func servers() []api.Config {
	list := []api.Config{site.Small()}
	for _, burst := range []int{1, 2, 3, 7, 100, 1023, 1024} {
		for _, rate := range []int{1, 2, 3, 7, 99, 1023, 1024} {
			list = append(list, server(burst, rate))
		}
	}
	return list
}

// noServers can't be, most of them for a number that no bucket has to do with.
func noServers() []api.Config {
	list := []api.Config{{}, server(0, 1), server(-1, 1), server(1025, 1), server(1, 0), server(1, -1), server(1, 1025), {Burst: 2, Rate: 1},
		server(math.MaxInt, 1), server(1, math.MaxInt), server(math.MinInt, math.MinInt), server(1<<32+2, 1), server(2, 1<<32+1)}
	for _, name := range site.Names() {
		for _, n := range []int{-1, math.MinInt, math.MaxInt} {
			c, _ := site.Set(site.Small(), name, n)
			list = append(list, c)
		}
	}
	return list
}

// ticks are some that there are.
func ticks() []int {
	return []int{0, 1, 2, 3, 5, 8, 9, 10, 11, 12, 14, 20, 1000, 1024, 1 << 16, 1 << 20, 1 << 29, most - 1025, most - 2, most - 1, most}
}

// noTicks are numbers of no tick; the lowest bits of many are one's.
func noTicks() []int {
	return []int{-1, -2, -9, most + 1, most + 2, most + 9, 1 << 31, math.MaxInt32, math.MinInt32, math.MaxUint32, 1 << 32, 1<<32 + 5, -1 << 32,
		1 << 62, math.MinInt, math.MinInt + 1, math.MinInt + 5, math.MaxInt - 1, math.MaxInt}
}

// anyTick are all of them.
func anyTick() []int { return append(ticks(), noTicks()...) }

// levels are tokens that a bucket of that Burst may have.
func levels(burst int) []int {
	list := []int{0}
	for _, n := range []int{1, 2, burst / 2, burst - 2, burst - 1, burst} {
		if 0 < n && n <= burst {
			list = append(list, n)
		}
	}
	return list
}

// noLevels are numbers of tokens that it can't have.
func noLevels(burst int) []int {
	return []int{-1, -2, -burst, burst + 1, burst + 2, 2*burst + 1, 1 << 32, 1<<32 + 1, math.MinInt, math.MinInt + 1, math.MaxInt - 1, math.MaxInt}
}

// The chapter's words, written anew

// canBe: whether a bucket can.
func canBe(c api.Config, b Bucket) bool {
	if site.Check(c) != api.OK {
		return false
	}
	return !(b.Tokens < 0 || b.Tokens > c.Burst || b.Last < 0 || b.Last > most)
}

// isNow: whether it is a tick.
func isNow(now int) bool { return !(now < 0 || now > most) }

// levelAt is the level of a bucket that can be, also behind the last tick.
func levelAt(c api.Config, b Bucket, now int64) int {
	level := int64(b.Tokens)
	if now > int64(b.Last) {
		level += int64(c.Rate) * (now - int64(b.Last))
	}
	if level > int64(c.Burst) {
		return c.Burst
	}
	return int(level)
}

func levelOf(c api.Config, b Bucket, now int) int {
	if !canBe(c, b) || !isNow(now) {
		return 0
	}
	return levelAt(c, b, int64(now))
}

func takeOf(c api.Config, b Bucket, now int) (Bucket, bool) {
	level := levelOf(c, b, now)
	if level == 0 {
		return b, false
	}
	if now < b.Last {
		now = b.Last
	}
	return Bucket{level - 1, now}, true
}

// untilOf looks for the first tick at which there is one: since a level never
// falls by itself, halves are enough.
func untilOf(c api.Config, b Bucket, now int) int {
	if !canBe(c, b) || !isNow(now) {
		return -1
	}
	return sort.Search(math.MaxInt32, func(n int) bool { return levelAt(c, b, int64(now)+int64(n)) >= 1 })
}

// want holds all that is told of a bucket at a tick.
func want(t testing.TB, c api.Config, b Bucket, now int) {
	t.Helper()
	if got := New(c, now); got != (Bucket{Tokens: c.Burst, Last: now}) {
		t.Fatalf("New(%d of %d, %d) = %+v", c.Burst, c.Rate, now, got)
	}
	if got := Check(c, b); got != canBe(c, b) {
		t.Fatalf("Check(%+v, %+v) = %v", c, b, got)
	}
	if got := Level(c, b, now); got != levelOf(c, b, now) {
		t.Fatalf("Level(%+v, %+v, %d) = %d, want %d", c, b, now, got, levelOf(c, b, now))
	}
	got, is := Take(c, b, now)
	if x, ok := takeOf(c, b, now); got != x || is != ok {
		t.Fatalf("Take(%+v, %+v, %d) = %+v, %v, want %+v, %v", c, b, now, got, is, x, ok)
	}
	if got := Until(c, b, now); got != untilOf(c, b, now) {
		t.Fatalf("Until(%+v, %+v, %d) = %d, want %d", c, b, now, got, untilOf(c, b, now))
	}
}

// wantEmptied: of all that can be taken at once nothing is left.
func wantEmptied(t testing.TB, c api.Config, b Bucket, now, times int) Bucket {
	t.Helper()
	for i := range times {
		next, is := Take(c, b, now)
		if !is {
			t.Fatalf("of %d that can be taken at %d of %+v the one at %d is false", times, now, b, i)
		}
		b = next
	}
	if next, is := Take(c, b, now); is || next != b {
		t.Fatalf("one more than %d is taken at %d: %+v", times, now, next)
	}
	return b
}

// P13.1: New

func TestNew(t *testing.T) {
	for _, c := range servers() {
		for _, now := range ticks() {
			b := New(c, now)
			if b.Tokens != c.Burst || b.Last != now {
				t.Fatalf("New(%d of %d, %d) = %+v", c.Burst, c.Rate, now, b)
			}
			if !Check(c, b) || Level(c, b, now) != c.Burst || Until(c, b, now) != 0 {
				t.Fatalf("a new one isn't full: %+v", b)
			}
		}
	}
}

// New answers what its sentence says of any numbers; Check is false of it then.
func TestNewOfWhatCantBe(t *testing.T) {
	for _, now := range anyTick() {
		for _, c := range noServers() {
			if b := New(c, now); b != (Bucket{c.Burst, now}) || Check(c, b) {
				t.Fatalf("New(%d of %d, %d) = %+v", c.Burst, c.Rate, now, b)
			}
		}
	}
	for _, now := range noTicks() {
		if b := New(site.Small(), now); b != (Bucket{100, now}) || Check(site.Small(), b) {
			t.Fatalf("New at %d = %+v", now, b)
		}
	}
}

// P13.1: Check

func TestCheck(t *testing.T) {
	for _, c := range servers() {
		for _, last := range ticks() {
			for _, n := range levels(c.Burst) {
				if !Check(c, Bucket{n, last}) {
					t.Fatalf("%d of %d at %d can't be", n, c.Burst, last)
				}
			}
			for _, n := range noLevels(c.Burst) {
				if Check(c, Bucket{n, last}) {
					t.Fatalf("%d of %d at %d can be", n, c.Burst, last)
				}
			}
		}
		for _, last := range noTicks() {
			for _, n := range levels(c.Burst) {
				if Check(c, Bucket{n, last}) {
					t.Fatalf("%d of %d at %d can be", n, c.Burst, last)
				}
			}
		}
	}
}

func TestCheckOfNoServer(t *testing.T) {
	for _, c := range noServers() {
		for _, b := range []Bucket{{}, {1, 0}, {0, 1}, {1, 1}, {c.Burst, 0}, {c.Burst, most}} {
			if Check(c, b) {
				t.Fatalf("%+v of %+v can be", b, c)
			}
		}
	}
}

// P13.1: Level

func TestLevel(t *testing.T) {
	for _, x := range []struct {
		burst, rate int
		b           Bucket
		now, want   int
	}{
		{10, 2, Bucket{3, 5}, 5, 3},
		{10, 2, Bucket{3, 5}, 6, 5},
		{10, 2, Bucket{3, 5}, 7, 7},
		{10, 2, Bucket{3, 5}, 8, 9},
		{10, 2, Bucket{3, 5}, 9, 10},
		{10, 2, Bucket{3, 5}, most, 10},
		{10, 2, Bucket{3, 5}, 4, 3}, // none come, if it isn't above Last
		{10, 2, Bucket{3, 5}, 0, 3},
		{10, 2, Bucket{0, 5}, 0, 0},
		{10, 2, Bucket{0, 5}, 5, 0},
		{10, 2, Bucket{10, 5}, 0, 10},
		{1, 1, Bucket{0, 5}, 6, 1},
		{1, 1, Bucket{0, 5}, 7, 1},
		{1, 1024, Bucket{0, 5}, 6, 1},
		{1024, 1, Bucket{0, 0}, 1023, 1023},
		{1024, 1, Bucket{0, 0}, 1024, 1024},
		{1024, 1, Bucket{0, 0}, 1025, 1024},
		{1024, 1024, Bucket{0, 0}, 1, 1024},
		{1024, 1023, Bucket{0, 0}, 1, 1023},
		{1024, 1024, Bucket{1024, 0}, most, 1024},
		{1024, 1, Bucket{0, most}, most, 0},
		{1024, 1, Bucket{5, most}, 0, 5},
		{1024, 1, Bucket{5, most - 1}, most, 6},
		// 2^22 ticks times 2^10, and 2^30 of 4: nothing of 32 bits is left.
		{1024, 1024, Bucket{0, 0}, 1 << 22, 1024},
		{1024, 4, Bucket{0, 0}, 1 << 30, 1024},
		{1024, 1024, Bucket{0, 0}, 1 << 30, 1024},
	} {
		if got := Level(server(x.burst, x.rate), x.b, x.now); got != x.want {
			t.Errorf("Level(%d of %d, %+v, %d) = %d, want %d", x.burst, x.rate, x.b, x.now, got, x.want)
		}
	}
}

// Tick by tick: Rate more with each, till it is full, and then no more.
func TestLevelGrows(t *testing.T) {
	for _, c := range servers() {
		for _, n := range levels(c.Burst) {
			level := n
			for now := 7; now < 1200; now++ {
				if got := Level(c, Bucket{n, 7}, now); got != level {
					t.Fatalf("%d of %d at 7 is %d at %d, want %d, Rate %d", n, c.Burst, got, now, level, c.Rate)
				}
				level = min(level+c.Rate, c.Burst)
			}
		}
	}
}

func TestNoLevel(t *testing.T) {
	for _, c := range noServers() {
		for _, now := range anyTick() {
			for _, b := range []Bucket{{}, {1, 0}, {2, 1}, {c.Burst, now}, New(c, 0)} {
				want(t, c, b, now)
				if got := Level(c, b, now); got != 0 {
					t.Fatalf("Level(%+v, %+v, %d) = %d", c, b, now, got)
				}
			}
		}
	}
	c := server(10, 2)
	for _, now := range noTicks() {
		if got := Level(c, Bucket{3, 5}, now); got != 0 {
			t.Fatalf("at %d it is %d", now, got)
		}
		if got := Level(c, Bucket{3, now}, 5); got != 0 {
			t.Fatalf("from %d on it is %d", now, got)
		}
	}
	for _, n := range noLevels(10) {
		if got := Level(c, Bucket{n, 5}, 6); got != 0 {
			t.Fatalf("of %d it is %d", n, got)
		}
	}
}

// P13.2: Take

func TestTake(t *testing.T) {
	for _, x := range []struct {
		burst, rate int
		b           Bucket
		now         int
		want        Bucket
		is          bool
	}{
		{10, 2, Bucket{3, 5}, 5, Bucket{2, 5}, true},
		{10, 2, Bucket{3, 5}, 6, Bucket{4, 6}, true},
		{10, 2, Bucket{3, 5}, 9, Bucket{9, 9}, true},
		{10, 2, Bucket{3, 5}, most, Bucket{9, most}, true},
		{10, 2, Bucket{3, 5}, 4, Bucket{2, 5}, true}, // at Last, which is the greater one
		{10, 2, Bucket{3, 5}, 0, Bucket{2, 5}, true},
		{10, 2, Bucket{1, 5}, 5, Bucket{0, 5}, true},
		{10, 2, Bucket{0, 5}, 5, Bucket{0, 5}, false},
		{10, 2, Bucket{0, 5}, 4, Bucket{0, 5}, false},
		{10, 2, Bucket{0, 5}, 6, Bucket{1, 6}, true},
		{1, 1, Bucket{0, 5}, 6, Bucket{0, 6}, true},
		{1, 1, Bucket{1, 5}, 5, Bucket{0, 5}, true},
		{1, 1, Bucket{0, most}, most, Bucket{0, most}, false},
		{1, 1, Bucket{0, most - 1}, most, Bucket{0, most}, true},
		{1024, 1024, Bucket{0, 0}, 1 << 22, Bucket{1023, 1 << 22}, true},
	} {
		got, is := Take(server(x.burst, x.rate), x.b, x.now)
		if got != x.want || is != x.is {
			t.Errorf("Take(%d of %d, %+v, %d) = %+v, %v", x.burst, x.rate, x.b, x.now, got, is)
		}
	}
}

// What can't be stays as it is, beside false.
func TestTakeOfWhatCantBe(t *testing.T) {
	for _, c := range noServers() {
		for _, now := range anyTick() {
			for _, b := range []Bucket{{5, 3}, {1, now}, {c.Burst, 0}, {-1, -1}} {
				if got, is := Take(c, b, now); is || got != b {
					t.Fatalf("Take(%+v, %+v, %d) = %+v, %v", c, b, now, got, is)
				}
			}
		}
	}
	c := server(10, 2)
	for _, now := range noTicks() {
		for _, x := range []struct {
			b   Bucket
			now int
		}{{Bucket{3, 5}, now}, {Bucket{3, now}, 5}, {Bucket{10, now}, now}} {
			if got, is := Take(c, x.b, x.now); is || got != x.b {
				t.Fatalf("Take(%+v, %d) = %+v, %v", x.b, x.now, got, is)
			}
		}
	}
	for _, n := range noLevels(10) {
		if got, is := Take(c, Bucket{n, 5}, 6); is || got != (Bucket{n, 5}) {
			t.Fatalf("one of %d is taken: %+v", n, got)
		}
	}
}

// As many can be taken at once as the level says, and what is left can be.
func TestTakeAllAtOnce(t *testing.T) {
	for _, c := range servers() {
		for _, now := range []int{0, 4, 5, 6, 8, 100, most} {
			for _, n := range levels(c.Burst) {
				b := wantEmptied(t, c, Bucket{n, 5}, now, levelOf(c, Bucket{n, 5}, now))
				if !Check(c, b) || Level(c, b, now) != 0 {
					t.Fatalf("%+v is left", b)
				}
			}
		}
	}
}

// P13.2: Until

func TestUntil(t *testing.T) {
	for _, x := range []struct {
		burst, rate int
		b           Bucket
		now, want   int
	}{
		{10, 2, Bucket{3, 5}, 5, 0},
		{10, 2, Bucket{1, 5}, 0, 0},
		{10, 2, Bucket{0, 5}, 6, 0},
		{10, 2, Bucket{0, 5}, most, 0},
		{10, 2, Bucket{0, 5}, 5, 1},
		{10, 2, Bucket{0, 5}, 4, 2},
		{10, 2, Bucket{0, 5}, 0, 6},
		{1024, 1024, Bucket{0, 5}, 0, 6},
		{1, 1, Bucket{0, 0}, 0, 1},
		{1, 1, Bucket{0, most - 1}, most - 1, 1},
		{1, 1, Bucket{0, most}, most, 1}, // behind the last tick they come, too
		{1, 1, Bucket{0, most}, most - 1, 2},
		{1, 1, Bucket{0, most}, 0, most + 1},
	} {
		if got := Until(server(x.burst, x.rate), x.b, x.now); got != x.want {
			t.Errorf("Until(%d of %d, %+v, %d) = %d, want %d", x.burst, x.rate, x.b, x.now, got, x.want)
		}
	}
}

func TestUntilOfWhatCantBe(t *testing.T) {
	for _, c := range noServers() {
		for _, now := range anyTick() {
			for _, b := range []Bucket{{5, 3}, {0, 0}, {1, now}, {c.Burst, 0}, {-1, -1}} {
				if got := Until(c, b, now); got != -1 {
					t.Fatalf("Until(%+v, %+v, %d) = %d", c, b, now, got)
				}
			}
		}
	}
	c := server(10, 2)
	for _, now := range noTicks() {
		if Until(c, Bucket{3, 5}, now) != -1 || Until(c, Bucket{0, 5}, now) != -1 || Until(c, Bucket{3, now}, 5) != -1 || Until(c, Bucket{0, now}, now) != -1 {
			t.Fatalf("at %d, that is no tick, something is told", now)
		}
	}
	for _, n := range noLevels(10) {
		if got := Until(c, Bucket{n, 5}, 6); got != -1 {
			t.Fatalf("Until of %d = %d", n, got)
		}
	}
}

// P13.1 and P13.2 of all that is here

func TestAll(t *testing.T) {
	for _, c := range []api.Config{server(1, 1), server(2, 1), server(3, 2), server(100, 10), server(1024, 1), server(1, 1024), server(1024, 1024)} {
		for _, last := range anyTick() {
			for _, now := range anyTick() {
				for _, n := range append(levels(c.Burst), noLevels(c.Burst)...) {
					want(t, c, Bucket{n, last}, now)
				}
			}
		}
	}
}

func TestAllOfSmallNumbers(t *testing.T) {
	for burst := -1; burst < 6; burst++ {
		for rate := -1; rate < 6; rate++ {
			for tokens := -1; tokens < 7; tokens++ {
				for now := -1; now < 9; now++ {
					want(t, server(burst, rate), Bucket{tokens, 3}, now)
				}
			}
		}
	}
}

// P13.3

// wantBound: from no tick to no other one more was taken than Burst, and Rate
// for each tick between them.
func wantBound(t testing.TB, c api.Config, taken []int) {
	t.Helper()
	for from := range taken {
		sum := 0
		for to := from; to < len(taken); to++ {
			sum += taken[to]
			if sum > c.Burst+c.Rate*(to-from) {
				t.Fatalf("from %d to %d %d are taken, of Burst %d and Rate %d", from, to, sum, c.Burst, c.Rate)
			}
		}
	}
}

// takes asks as often at each tick as a list says: how many it got.
func takes(t testing.TB, c api.Config, b Bucket, start int, asked []int) []int {
	t.Helper()
	taken := make([]int, len(asked))
	for i, n := range asked {
		for range n {
			next, is := Take(c, b, start+i)
			if !Check(c, next) || (!is && next != b) {
				t.Fatalf("%+v of %+v at %d", next, b, start+i)
			}
			b = next
			if is {
				taken[i]++
			}
		}
	}
	return taken
}

func TestNoMoreThanBurstAndRate(t *testing.T) {
	for _, c := range []api.Config{server(1, 1), server(1, 5), server(2, 1), server(3, 2), server(7, 3), server(20, 20), server(5, 9)} {
		for _, pause := range []int{1, 2, 3, 5, 11} {
			asked := make([]int, 40)
			for i := range asked {
				if i%pause == 0 {
					asked[i] = 30
				}
			}
			taken := takes(t, c, New(c, 0), 0, asked)
			wantBound(t, c, taken)
			if taken[0] != c.Burst || taken[pause] != min(c.Burst, pause*c.Rate) {
				t.Fatalf("Burst %d, Rate %d, each %d: %v", c.Burst, c.Rate, pause, taken)
			}
		}
	}
}

// Who asks each tick is given all that comes.
func TestWhoAsksAlways(t *testing.T) {
	for _, c := range servers() {
		asked := make([]int, 20)
		for i := range asked {
			asked[i] = c.Burst + 1
		}
		for now, got := range takes(t, c, New(c, 0), 0, asked) {
			want := min(c.Rate, c.Burst)
			if now == 0 {
				want = c.Burst
			}
			if got != want {
				t.Fatalf("at %d %d are taken of Burst %d and Rate %d, want %d", now, got, c.Burst, c.Rate, want)
			}
		}
	}
}

// A tick that went back brings no tokens, neither then nor later.
func TestTicksThatGoBack(t *testing.T) {
	for _, c := range servers() {
		b := wantEmptied(t, c, New(c, 50), 50, c.Burst)
		for _, now := range []int{49, 0, 50, 3, 50, 10} {
			b = wantEmptied(t, c, b, now, 0)
		}
		if Level(c, b, 51) != min(c.Rate, c.Burst) {
			t.Fatalf("Burst %d, Rate %d: %d at 51", c.Burst, c.Rate, Level(c, b, 51))
		}
	}
}

// wantWait: at each tick ahead none may be taken, and then one may be.
func wantWait(t testing.TB, c api.Config, b Bucket, now int) {
	t.Helper()
	wait := Until(c, b, now)
	if wait < 0 || wait > b.Last+1 {
		t.Fatalf("Until(%+v, %d) = %d", b, now, wait)
	}
	for i := max(0, wait-100); i < wait; i++ {
		if _, is := Take(c, b, now+i); is {
			t.Fatalf("of %+v at %d one is taken at %d already, want %d", b, now, now+i, now+wait)
		}
	}
	if now+wait > most {
		return
	}
	if _, is := Take(c, b, now+wait); !is {
		t.Fatalf("of %+v at %d none is taken at %d", b, now, now+wait)
	}
}

func TestWhoWaits(t *testing.T) {
	for _, c := range servers() {
		for _, n := range levels(c.Burst) {
			for _, last := range ticks() {
				for _, now := range ticks() {
					wantWait(t, c, Bucket{n, last}, now)
				}
			}
		}
	}
}

// The example of the chapter.
func TestExample(t *testing.T) {
	c := server(2, 1)
	b := New(c, 0)
	b = wantEmptied(t, c, b, 5, 2)
	if b != (Bucket{0, 5}) || Until(c, b, 5) != 1 {
		t.Fatalf("%+v, Until %d", b, Until(c, b, 5))
	}
	wantEmptied(t, c, b, 6, 1)
}

// By chance

// near is a number that is often one of a list, else any.
func near(dice *rand.Rand, list []int) int {
	if dice.Intn(4) > 0 {
		return list[dice.Intn(len(list))]
	}
	return int(dice.Uint64())
}

func TestByChance(t *testing.T) {
	dice := rand.New(rand.NewSource(13))
	for range 20000 {
		c := server(1+dice.Intn(1024), 1+dice.Intn(1024))
		want(t, c, Bucket{dice.Intn(c.Burst + 1), dice.Intn(most + 1)}, dice.Intn(most+1))
		want(t, c, Bucket{near(dice, levels(c.Burst)), near(dice, anyTick())}, near(dice, anyTick()))
		last := dice.Intn(1 << 20)
		want(t, c, Bucket{dice.Intn(c.Burst + 1), last}, max(0, last+dice.Intn(60)-20))
		want(t, server(near(dice, []int{0, 1, 2, 1024, 1025}), near(dice, []int{0, 1, 2, 1024, 1025})), Bucket{dice.Intn(4), 5}, dice.Intn(10))
	}
	for range 300 {
		c := server(1+dice.Intn(30), 1+dice.Intn(10))
		asked := make([]int, 50)
		for i := range asked {
			asked[i] = max(0, dice.Intn(40)-20)
		}
		wantBound(t, c, takes(t, c, Bucket{dice.Intn(c.Burst + 1), dice.Intn(60)}, dice.Intn(60), asked))
	}
}

func FuzzBucket(f *testing.F) {
	f.Add(2, 1, 0, 5, 6)
	f.Add(1024, 1024, 1024, 0, 1<<30)
	f.Add(1, 1, 0, 1<<30, 1<<30)
	f.Add(0, 1, -1, -1, -1)
	f.Add(1025, 1<<32+1, 1<<32, 1<<30+1, 1<<30+1)
	f.Fuzz(func(t *testing.T, burst, rate, tokens, last, now int) {
		want(t, server(burst, rate), Bucket{tokens, last}, now)
		c := server(1+burst&1023, 1+rate&1023)
		want(t, c, Bucket{tokens, last}, now)
		b := Bucket{(tokens & 2047) % (c.Burst + 1), last & (most - 1)}
		want(t, c, b, now)
		want(t, c, b, now&(most-1))
		want(t, c, b, min(most, b.Last+now&15))
		wantWait(t, c, b, now&(most-1))
		wantWait(t, c, Bucket{0, b.Last}, max(0, b.Last-now&127))
	})
}

func FuzzTakes(f *testing.F) {
	f.Add(2, 1, 5, []byte{3, 1, 0, 0, 9})
	f.Add(30, 10, 1<<30-2, []byte{40, 40, 40, 40})
	f.Add(1, 30, 0, []byte{0, 2, 2, 2, 0, 0, 2})
	f.Fuzz(func(t *testing.T, burst, rate, start int, bytes []byte) {
		c := server(1+burst&31, 1+rate&31)
		start &= most - 1
		asked := []int{}
		for i := range min(len(bytes), 200, most-start+1) {
			asked = append(asked, int(bytes[i]&63))
		}
		wantBound(t, c, takes(t, c, New(c, start), start, asked))
		wantBound(t, c, takes(t, c, New(c, start+1), start, asked))
	})
}
