package token

import (
	"hash/fnv"
	"math"
	"math/rand"
	"testing"

	"hoistway/api"
)

// secrets are the ends of their type, and some between.
func secrets() []uint32 {
	return []uint32{0, 1, 7, 99, 0x12345678, 0x7FFFFFFF, 0x80000000, 0xFFFFFFFE, math.MaxUint32}
}

// people are principals.
func people() []int {
	return []int{1, 2, 5, 255, 256, 257, 65535, 65536, 1 << 24, 0x0ABCDEF0, 1<<30 - 1, 1 << 30}
}

// nobody are numbers of no principal; the lowest bits of many are one's.
func nobody() []int {
	return []int{0, -1, -2, -255, 1<<30 + 1, 1<<30 + 2, 1 << 31, math.MaxInt32, math.MinInt32, math.MinInt32 + 1, math.MaxUint32,
		1 << 32, 1<<32 + 1, 1<<32 + 5, 1<<32 + 1<<30, 1<<62 + 1, math.MinInt, math.MinInt + 1, math.MaxInt - 1, math.MaxInt}
}

// roles are those that there are, written anew.
func roles() []int { return []int{1, 2, 3} }

// noRoles are numbers of no role; the lowest bits of many are one's.
func noRoles() []int {
	return []int{0, 4, 5, 6, -1, -2, -3, 255, 254, 256, 257, 258, 259, -253, -254, -255, 1 << 16, 1<<16 + 1, 1 << 32, 1<<32 + 1, 1<<32 + 3,
		math.MinInt32, math.MaxInt32, math.MinInt, math.MinInt + 1, math.MinInt + 3, math.MaxInt - 1, math.MaxInt}
}

// kinds are those that there are, written anew.
func kinds() []int { return []int{1, 2, 3, 4} }

// noKinds are numbers of no kind; the lowest bits of many are one's.
func noKinds() []int {
	return []int{0, 5, 6, -1, -4, 255, 256, 257, 260, 1<<32 + 1, 1<<32 + 4, math.MinInt32, math.MaxInt32, math.MinInt, math.MinInt + 1, math.MinInt + 4, math.MaxInt}
}

func anyWho() []int { return append(people(), nobody()...) }

func anyRole() []int { return append(roles(), noRoles()...) }

func anyKind() []int { return append(kinds(), noKinds()...) }

// within: whether a list has a number.
func within(list []int, n int) bool {
	for _, x := range list {
		if x == n {
			return true
		}
	}
	return false
}

// The chapter's words, written anew

// written is what is summed: the secret and a number, the highest byte first,
// and a byte.
func written(secret uint32, number, last int) []byte {
	list := []byte{}
	for _, n := range []uint64{uint64(secret), uint64(number) % (1 << 32)} {
		list = append(list, byte(n/(1<<24)), byte(n/(1<<16)%256), byte(n/256%256), byte(n%256))
	}
	return append(list, byte(uint64(last)%256))
}

// summed is FNV-1a of bytes, by the library.
func summed(list []byte) uint32 {
	h := fnv.New32a()
	h.Write(list)
	return h.Sum32()
}

func tokenOf(secret uint32, who, role int) uint32 { return summed(written(secret, who, role)) }

func passOf(secret uint32, session int) uint32 { return summed(written(secret, session, 255)) }

func isToken(secret uint32, who, role int, x uint32) bool {
	return who > 0 && who <= 1073741824 && within(roles(), role) && tokenOf(secret, who, role) == x
}

// may is what a role may ask.
type may struct {
	place  []int
	cancel bool
	set    bool
	feed   bool
}

// mayOf is the chapter's list, by its own numbers.
func mayOf(role int) may {
	switch role {
	case 1:
		return may{place: []int{1, 2, 4}, cancel: true, feed: true}
	case 2:
		return may{place: []int{4}}
	case 3:
		return may{place: []int{1, 2, 3, 4}, cancel: true, set: true, feed: true}
	}
	return may{}
}

// want holds all that is told of a secret, a principal, a role and a token.
func want(t testing.TB, secret uint32, who, role int, x uint32) {
	t.Helper()
	if got := Of(secret, who, role); got != tokenOf(secret, who, role) {
		t.Fatalf("Of(%d, %d, %d) = %08X, want %08X", secret, who, role, got, tokenOf(secret, who, role))
	}
	if got := Pass(secret, who); got != passOf(secret, who) {
		t.Fatalf("Pass(%d, %d) = %08X, want %08X", secret, who, got, passOf(secret, who))
	}
	if got := Is(secret, who, role, x); got != isToken(secret, who, role, x) {
		t.Fatalf("Is(%d, %d, %d, %08X) = %v", secret, who, role, x, got)
	}
}

// wantMay holds all that a role may ask, and a kind that it may place.
func wantMay(t testing.TB, role, kind int) {
	t.Helper()
	m := mayOf(role)
	if got := MayPlace(role, kind); got != within(m.place, kind) {
		t.Fatalf("MayPlace(%d, %d) = %v", role, kind, got)
	}
	if got := MayCancel(role); got != m.cancel {
		t.Fatalf("MayCancel(%d) = %v", role, got)
	}
	if got := MaySet(role); got != m.set {
		t.Fatalf("MaySet(%d) = %v", role, got)
	}
	if got := MayFeed(role); got != m.feed {
		t.Fatalf("MayFeed(%d) = %v", role, got)
	}
}

// wantUnlike: of one number the tokens of the roles, and the pass, are unlike.
func wantUnlike(t testing.TB, secret uint32, n int) {
	t.Helper()
	a, b, c, pass := Of(secret, n, 1), Of(secret, n, 2), Of(secret, n, 3), Pass(secret, n)
	if a == b || a == c || b == c {
		t.Fatalf("%08X, %08X, %08X of %d, %d", a, b, c, secret, n)
	}
	if pass == a || pass == b || pass == c {
		t.Fatalf("the pass %08X of %d, %d is a token", pass, secret, n)
	}
}

// P12.1: Of and Pass

// Worked out past the package, and past the library.
func TestSums(t *testing.T) {
	for _, x := range []struct {
		secret uint32
		n      int
		last   int
		want   uint32
	}{
		{0, 0, 0, 0xC8E581FF},
		{0, 1, 1, 0xA3E30929},
		{7, 1, 1, 0x078E3306},
		{7, 1, 2, 0x068E3173},
		{7, 1, 3, 0x058E2FE0},
		{99, 1, 1, 0x83A5120A},
		{0x12345678, 0x0ABCDEF0, 2, 0x263D7545},
		{math.MaxUint32, 1 << 30, 3, 0x6570FD26},
		// The texts foobarbaz and 123456789.
		{0x666F6F62, 0x61726261, 'z', 0x606D6255},
		{0x31323334, 0x35363738, '9', 0xBB86B11C},
	} {
		if got := Of(x.secret, x.n, x.last); got != x.want {
			t.Errorf("Of(%d, %d, %d) = %08X, want %08X", x.secret, x.n, x.last, got, x.want)
		}
	}
	for _, x := range []struct {
		secret uint32
		n      int
		want   uint32
	}{{7, 1, 0xC18DC4D4}, {0x12345678, 0x0ABCDEF0, 0x993C974E}, {math.MaxUint32, 1 << 30, 0x617289DA}} {
		if got := Pass(x.secret, x.n); got != x.want {
			t.Errorf("Pass(%d, %d) = %08X, want %08X", x.secret, x.n, got, x.want)
		}
	}
}

func TestOfAndPass(t *testing.T) {
	for _, secret := range secrets() {
		for _, who := range anyWho() {
			for _, role := range anyRole() {
				want(t, secret, who, role, tokenOf(secret, who, role))
			}
		}
	}
}

// Each bit of what is summed counts: one turned is another token.
func TestOfEachBit(t *testing.T) {
	for _, secret := range secrets() {
		for i := range 32 {
			want(t, secret^1<<i, 5, 2, tokenOf(secret, 5, 2))
			want(t, secret, 5^1<<i, 2, tokenOf(secret, 5, 2))
			if i < 8 {
				want(t, secret, 5, 2^1<<i, tokenOf(secret, 5, 2))
			}
		}
	}
}

// Of the principal 32 bits count, of the role 8, and no higher ones.
func TestLowestBitsAlone(t *testing.T) {
	for _, secret := range secrets() {
		for _, who := range anyWho() {
			for i := 32; i < 64; i++ {
				if Of(secret, who, 2) != Of(secret, who^1<<i, 2) || Pass(secret, who) != Pass(secret, who^1<<i) {
					t.Fatalf("the bit %d of %d counts", i, who)
				}
			}
		}
		for _, role := range anyRole() {
			for i := 8; i < 64; i++ {
				if Of(secret, 5, role) != Of(secret, 5, role^1<<i) {
					t.Fatalf("the bit %d of the role %d counts", i, role)
				}
			}
		}
	}
}

// P12.1: Is

func TestIs(t *testing.T) {
	for _, secret := range secrets() {
		for _, who := range people() {
			for _, role := range roles() {
				if !Is(secret, who, role, Of(secret, who, role)) {
					t.Fatalf("Is(%d, %d, %d) of its token is false", secret, who, role)
				}
			}
		}
	}
}

func TestIsOfNobody(t *testing.T) {
	for _, secret := range secrets() {
		for _, role := range anyRole() {
			for _, who := range nobody() {
				if Is(secret, who, role, Of(secret, who, role)) {
					t.Fatalf("%d with the role %d is somebody", who, role)
				}
			}
		}
		for _, who := range anyWho() {
			for _, role := range noRoles() {
				if Is(secret, who, role, Of(secret, who, role)) {
					t.Fatalf("%d is a role, of %d", role, who)
				}
			}
		}
	}
}

func TestIsOfAnotherToken(t *testing.T) {
	for _, secret := range secrets() {
		for _, who := range people() {
			for _, role := range roles() {
				wantNoOther(t, secret, who, role)
			}
		}
	}
}

// wantNoOther: what is near to a token, and what is of something near, isn't it.
func wantNoOther(t *testing.T, secret uint32, who, role int) {
	t.Helper()
	good := Of(secret, who, role)
	others := []uint32{good + 1, good - 1, ^good, -good, Of(secret+1, who, role), Of(secret-1, who, role), Of(secret, who+1, role), Of(secret, who-1, role),
		Of(secret, who, role+1), Of(secret, who, role-1), Pass(secret, who), good &^ 0xFF, good >> 8, good << 8}
	for i := range 32 {
		others = append(others, good^1<<i)
	}
	for _, x := range others {
		if x != good && Is(secret, who, role, x) {
			t.Fatalf("Is(%d, %d, %d, %08X), where the token is %08X", secret, who, role, x, good)
		}
	}
}

// Whose token it is, is told by all three.
func TestIsOfAnother(t *testing.T) {
	for _, secret := range secrets() {
		for _, who := range anyWho() {
			for _, role := range anyRole() {
				want(t, secret, who, role, tokenOf(99, 5, 2))
				want(t, secret, who, role, tokenOf(secret, 5, 2))
				want(t, secret, who, role, tokenOf(secret, who, 2))
				want(t, secret, who, role, passOf(secret, who))
				want(t, secret, who, role, 0)
			}
		}
	}
}

// P12.2

func TestMay(t *testing.T) {
	for _, role := range anyRole() {
		for _, kind := range anyKind() {
			wantMay(t, role, kind)
		}
	}
	for role := range 600 {
		for kind := range 600 {
			wantMay(t, role-300, kind-300)
		}
	}
}

func TestMayByTheNamesOfApi(t *testing.T) {
	for _, x := range []struct {
		role, kind int
		want       bool
	}{
		{api.App, api.Up, true}, {api.App, api.Down, true}, {api.App, api.Inside, false}, {api.App, api.Trip, true},
		{api.Turnstile, api.Up, false}, {api.Turnstile, api.Down, false}, {api.Turnstile, api.Inside, false}, {api.Turnstile, api.Trip, true},
		{api.Manager, api.Up, true}, {api.Manager, api.Down, true}, {api.Manager, api.Inside, true}, {api.Manager, api.Trip, true},
	} {
		if got := MayPlace(x.role, x.kind); got != x.want {
			t.Errorf("MayPlace(%d, %d) = %v", x.role, x.kind, got)
		}
	}
	for _, x := range []struct {
		role              int
		cancel, set, feed bool
	}{{api.App, true, false, true}, {api.Turnstile, false, false, false}, {api.Manager, true, true, true}} {
		if MayCancel(x.role) != x.cancel || MaySet(x.role) != x.set || MayFeed(x.role) != x.feed {
			t.Errorf("the role %d may %v, %v, %v", x.role, MayCancel(x.role), MaySet(x.role), MayFeed(x.role))
		}
	}
}

func TestMayPlaceInTheExample(t *testing.T) {
	if !MayPlace(api.Turnstile, api.Trip) || MayPlace(api.Turnstile, api.Up) {
		t.Fatal("a Turnstile")
	}
}

func TestNobodyMay(t *testing.T) {
	for _, role := range noRoles() {
		if MayCancel(role) || MaySet(role) || MayFeed(role) {
			t.Fatalf("the role %d may something", role)
		}
		for _, kind := range anyKind() {
			if MayPlace(role, kind) {
				t.Fatalf("the role %d may place %d", role, kind)
			}
		}
	}
	for _, kind := range noKinds() {
		for _, role := range anyRole() {
			if MayPlace(role, kind) {
				t.Fatalf("the role %d may place %d", role, kind)
			}
		}
	}
}

// P12.3

func TestUnlike(t *testing.T) {
	for _, secret := range secrets() {
		for _, n := range anyWho() {
			wantUnlike(t, secret, n)
		}
		for n := range 5000 {
			wantUnlike(t, secret, n)
		}
	}
}

// All 256 bytes behind one number lead to unlike sums, and the last of them is
// the pass.
func TestUnlikeOfAllBytes(t *testing.T) {
	for _, secret := range secrets() {
		for _, n := range anyWho() {
			seen := map[uint32]bool{}
			for role := range 256 {
				seen[Of(secret, n, role)] = true
			}
			if len(seen) != 256 || Of(secret, n, 255) != Pass(secret, n) {
				t.Fatalf("%d sums of %d, %d", len(seen), secret, n)
			}
		}
	}
}

// By chance

// near is a number that is often one of a list, else any.
func near(dice *rand.Rand, list []int) int {
	if dice.Intn(3) > 0 {
		return list[dice.Intn(len(list))]
	}
	return int(dice.Uint64())
}

func TestByChance(t *testing.T) {
	dice := rand.New(rand.NewSource(12))
	for range 20000 {
		secret, who, role, kind := dice.Uint32(), near(dice, anyWho()), near(dice, anyRole()), near(dice, anyKind())
		want(t, secret, who, role, tokenOf(secret, who, role))
		want(t, secret, who, role, dice.Uint32())
		wantMay(t, role, kind)
		wantUnlike(t, secret, who)
	}
}

func FuzzToken(f *testing.F) {
	f.Add(uint32(99), 1, 1, uint32(0x83A5120A))
	f.Add(uint32(7), 1<<30, 3, uint32(0))
	f.Add(uint32(math.MaxUint32), 1<<30+1, 4, uint32(1))
	f.Add(uint32(0), -1, -1, uint32(math.MaxUint32))
	f.Fuzz(func(t *testing.T, secret uint32, who, role int, x uint32) {
		want(t, secret, who, role, x)
		want(t, secret, who, role, tokenOf(secret, who, role))
		want(t, secret, who, 1+role&1, tokenOf(secret, who, 1+role&1))
		wantUnlike(t, secret, who)
	})
}

func FuzzMay(f *testing.F) {
	f.Add(1, 3)
	f.Add(2, 4)
	f.Add(3, 5)
	f.Add(257, 260)
	f.Fuzz(func(t *testing.T, role, kind int) {
		wantMay(t, role, kind)
		wantMay(t, 1+role&3, 1+kind&7)
	})
}
