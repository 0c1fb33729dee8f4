package shelf

import (
	"cmp"
	"errors"
	"maps"
	"math"
	"math/rand"
	"slices"
	"strconv"
	"strings"
	"testing"
)

// thing is a value of several fields.
type thing struct {
	name string
	n    int
}

// floor is a key of a type of its own.
type floor int8

// noRooms are the rooms that there can't be.
func noRooms() []int {
	return []int{0, -1, -2, -1 << 16, math.MinInt, math.MinInt + 1, 1<<16 + 1, 1 << 17, math.MaxInt32, math.MaxInt32 + 1, 1 << 32, 1<<32 + 1, math.MaxInt - 1, math.MaxInt}
}

func pair[K cmp.Ordered, V any](k K, v V) Pair[K, V] { return Pair[K, V]{k, v} }

// of is a shelf on which these pairs were put, in this order.
func of[K cmp.Ordered, V any](t testing.TB, room int, pairs ...Pair[K, V]) Shelf[K, V] {
	t.Helper()
	s := New[K, V](room)
	if s.Room() != room {
		t.Fatalf("New(%d) has room for %d", room, s.Room())
	}
	for _, p := range pairs {
		next, is := s.With(p.Key, p.Val)
		if !is {
			t.Fatalf("no room for %v of %v in %d", p, pairs, room)
		}
		s = next
	}
	return s
}

// keyed is a shelf of these keys, each with its text as its value.
func keyed(t testing.TB, room int, keys ...int) Shelf[int, string] {
	t.Helper()
	return of(t, room, texts(keys...)...)
}

func texts(keys ...int) []Pair[int, string] {
	pairs := []Pair[int, string]{}
	for _, k := range keys {
		pairs = append(pairs, pair(k, strconv.Itoa(k)))
	}
	return pairs
}

// wantShelf holds a shelf against its room and its pairs.
func wantShelf[K cmp.Ordered, V comparable](t testing.TB, s Shelf[K, V], room int, pairs ...Pair[K, V]) {
	t.Helper()
	if s.Len() != len(pairs) || s.Room() != room {
		t.Fatalf("Len %d, Room %d, want %d, %d", s.Len(), s.Room(), len(pairs), room)
	}
	if list := s.List(); !slices.Equal(list, pairs) {
		t.Fatalf("List %v, want %v", list, pairs)
	}
	wantLevel(t, s.tree)
	keys := s.Keys()
	if len(keys) != len(pairs) {
		t.Fatalf("%d keys of %v", len(keys), pairs)
	}
	for k, p := range pairs {
		if keys[k] != p.Key {
			t.Fatalf("Keys %v, want those of %v", keys, pairs)
		}
		if k > 0 && keys[k-1] >= keys[k] {
			t.Fatalf("Keys %v don't rise", keys)
		}
		wantGet(t, s, p.Key, p.Val, true)
	}
}

// wantLevel holds that each way down is short, and answers the height.
func wantLevel[K cmp.Ordered, V any](t testing.TB, n *node[K, V]) int {
	t.Helper()
	if n == nil {
		return 0
	}
	left, right := wantLevel(t, n.left), wantLevel(t, n.right)
	if n.height != 1+max(left, right) || max(left, right)-min(left, right) > 1 {
		t.Fatalf("at %v: height %d, of its sides %d, %d", n.pair.Key, n.height, left, right)
	}
	return n.height
}

func wantGet[K cmp.Ordered, V comparable](t testing.TB, s Shelf[K, V], k K, want V, there bool) {
	t.Helper()
	if v, is := s.Get(k); v != want || is != there {
		t.Fatalf("Get(%v) = %v, %v, want %v, %v", k, v, is, want, there)
	}
}

func wantEqual[K cmp.Ordered, V comparable](t testing.TB, a, b Shelf[K, V], want bool) {
	t.Helper()
	if Equal(a, b) != want || Equal(b, a) != want {
		t.Fatalf("Equal of %d %v and %d %v: %v, %v, want %v", a.Room(), a.List(), b.Room(), b.List(), Equal(a, b), Equal(b, a), want)
	}
}

// wantFull holds that a key more is refused, and the same shelf is answered.
func wantFull[K cmp.Ordered, V comparable](t testing.TB, s Shelf[K, V], k K, v V) {
	t.Helper()
	room, pairs := s.Room(), s.List()
	same, is := s.With(k, v)
	if is {
		t.Fatalf("room for %v in %d of %v", k, room, pairs)
	}
	wantShelf(t, same, room, pairs...)
	wantShelf(t, s, room, pairs...)
	wantEqual(t, s, same, true)
}

func always[K, V any](K, V) bool { return true }

func never[K, V any](K, V) bool { return false }

func isEven(k int, _ string) bool { return k%2 == 0 }

// orders are all rows of the numbers from 1 to n, in all orders.
func orders(n int) [][]int {
	if n == 0 {
		return [][]int{{}}
	}
	rows := [][]int{}
	for _, row := range orders(n - 1) {
		for at := range n {
			rows = append(rows, slices.Insert(slices.Clone(row), at, n))
		}
	}
	return rows
}

func numbers(from, to int) []int {
	list := []int{}
	for n := from; n < to; n++ {
		list = append(list, n)
	}
	return list
}

// P6.1

func TestNew(t *testing.T) {
	for _, room := range []int{1, 2, 3, 16, 64, 255, 256, 1000, 1<<16 - 1, 1 << 16} {
		wantShelf(t, New[int, string](room), room)
		wantShelf(t, New[string, int](room), room)
		wantShelf(t, New[float64, thing](room), room)
		wantShelf(t, New[uint8, struct{}](room), room)
		wantShelf(t, New[floor, *int](room), room)
	}
}

// A room takes no memory: with values of this size it would be 4 TiB.
func TestNewOfGreatValues(t *testing.T) {
	type great [1 << 26]byte
	s := New[int, great](1 << 16)
	if s.Room() != 1<<16 || s.Len() != 0 {
		t.Error(s.Room(), s.Len())
	}
}

func TestNewWithoutRoom(t *testing.T) {
	for _, room := range noRooms() {
		wantZero(t, New[int, string](room), 1, "a")
		wantZero(t, New[string, thing](room), "a", thing{"a", 1})
	}
}

// The zero shelf answers each call, and nothing can be put there.
func TestZero(t *testing.T) {
	wantZero(t, Shelf[int, string]{}, 1, "a")
	wantZero(t, Shelf[int, string]{}, 0, "")
	wantZero(t, Shelf[string, int]{}, "", 0)
	wantZero(t, Shelf[float64, bool]{}, 0.5, true)
	wantZero(t, Shelf[uint16, thing]{}, 65535, thing{"a", 1})
	wantZero(t, Shelf[floor, *thing]{}, -128, &thing{})
}

func wantZero[K cmp.Ordered, V comparable](t *testing.T, s Shelf[K, V], k K, v V) {
	t.Helper()
	var zero Shelf[K, V]
	wantShelf(t, s, 0)
	wantGet(t, s, k, *new(V), false)
	wantFull(t, s, k, v)
	wantShelf(t, s.Without(k), 0)
	for _, is := range []func(K, V) bool{nil, always[K, V], never[K, V]} {
		wantShelf(t, s.Keep(is), 0)
		wantEqual(t, s.Keep(is), zero, true)
	}
	wantEqual(t, s, zero, true)
	wantEqual(t, s, s.Without(k), true)
	wantEqual(t, s, New[K, V](1), false)
}

func TestEmpty(t *testing.T) {
	full := keyed(t, 3, 1, 2, 3)
	empties := map[string]Shelf[int, string]{
		"new":     New[int, string](3),
		"emptied": full.Without(2).Without(1).Without(3),
		"kept":    full.Keep(never[int, string]),
	}
	for name, s := range empties {
		wantShelf(t, s, 3)
		for _, k := range []int{0, 1, 2, 3, -1, math.MinInt, math.MaxInt} {
			wantGet(t, s, k, "", false)
			wantShelf(t, s.Without(k), 3)
		}
		for _, is := range []func(int, string) bool{nil, always[int, string], never[int, string]} {
			wantShelf(t, s.Keep(is), 3)
		}
		for other, e := range empties {
			if !Equal(s, e) {
				t.Errorf("%s and %s are not the same", name, other)
			}
		}
		one, is := s.With(7, "seven")
		if !is {
			t.Errorf("%s: no room", name)
		}
		wantShelf(t, one, 3, pair(7, "seven"))
		wantShelf(t, s, 3)
	}
}

func TestGet(t *testing.T) {
	s := keyed(t, 9, 10, 20, 30, 40)
	for k := range 60 {
		if k >= 10 && k <= 40 && k%10 == 0 {
			wantGet(t, s, k, strconv.Itoa(k), true)
		} else {
			wantGet(t, s, k, "", false)
		}
	}
	wantGet(t, s, math.MinInt, "", false)
	wantGet(t, s, math.MaxInt, "", false)
}

// A zero value that was put there is there, and one that wasn't is not.
func TestZeroValues(t *testing.T) {
	s := of(t, 2, pair(0, 0))
	wantShelf(t, s, 2, pair(0, 0))
	wantGet(t, s, 0, 0, true)
	wantGet(t, s, 1, 0, false)
	wantShelf(t, of(t, 2, pair("", thing{})), 2, pair("", thing{}))
}

func TestSeveralTypes(t *testing.T) {
	wantShelf(t, of(t, 4, pair("b", 1), pair("", 2), pair("a", 3), pair("aa", 4)), 4,
		pair("", 2), pair("a", 3), pair("aa", 4), pair("b", 1))
	wantShelf(t, of(t, 3, pair("\xff", "x"), pair("\x00", "y"), pair("z", "z")), 3,
		pair("\x00", "y"), pair("z", "z"), pair("\xff", "x"))
	wantShelf(t, of(t, 3, pair(math.MaxInt, "x"), pair(0, "y"), pair(math.MinInt, "z")), 3,
		pair(math.MinInt, "z"), pair(0, "y"), pair(math.MaxInt, "x"))
	wantShelf(t, of(t, 3, pair(uint64(math.MaxUint64), true), pair(uint64(0), true), pair(uint64(1<<63), false)), 3,
		pair(uint64(0), true), pair(uint64(1<<63), false), pair(uint64(math.MaxUint64), true))
	wantShelf(t, of(t, 3, pair(floor(127), thing{"a", 1}), pair(floor(-128), thing{"b", 2}), pair(floor(0), thing{})), 3,
		pair(floor(-128), thing{"b", 2}), pair(floor(0), thing{}), pair(floor(127), thing{"a", 1}))
	wantShelf(t, of(t, 4, pair(0.5, 'a'), pair(math.Inf(1), 'b'), pair(math.Inf(-1), 'c'), pair(-0.5, 'd')), 4,
		pair(math.Inf(-1), 'c'), pair(-0.5, 'd'), pair(0.5, 'a'), pair(math.Inf(1), 'b'))
	wantShelf(t, of(t, 2, pair(byte(255), [2]int{1, 2}), pair(byte(1), [2]int{3, 4})), 2,
		pair(byte(1), [2]int{3, 4}), pair(byte(255), [2]int{1, 2}))
	wantShelf(t, of(t, 2, pair(2, struct{}{}), pair(1, struct{}{})), 2, pair(1, struct{}{}), pair(2, struct{}{}))
	wantShelf(t, of[int, any](t, 3, pair[int, any](3, 1), pair[int, any](2, "a"), pair[int, any](1, nil)), 3,
		pair[int, any](1, nil), pair[int, any](2, "a"), pair[int, any](3, 1))
	a, b := 1, 1
	wantShelf(t, of(t, 3, pair(2, &a), pair(1, &b), pair[int, *int](3, nil)), 3, pair(1, &b), pair(2, &a), pair[int, *int](3, nil))
}

// Values need not be comparable, but to Equal.
func TestValuesOfAnyType(t *testing.T) {
	lists := of(t, 2, pair("b", []int{1, 2}), pair[string, []int]("a", nil))
	if v, is := lists.Get("b"); !is || !slices.Equal(v, []int{1, 2}) {
		t.Error(v, is)
	}
	if v, is := lists.Get("a"); !is || v != nil {
		t.Error(v, is)
	}
	if v, is := lists.Get("c"); is || v != nil {
		t.Error(v, is)
	}
	if kept := lists.Keep(func(_ string, v []int) bool { return v != nil }); !slices.Equal(kept.Keys(), []string{"b"}) {
		t.Error(kept.Keys())
	}
	called := of(t, 1, pair(1, func() int { return 7 }))
	if f, is := called.Get(1); !is || f() != 7 {
		t.Error("function", is)
	}
	inner := keyed(t, 2, 1, 2)
	if s, is := of(t, 1, pair(1, inner)).Get(1); !is || !Equal(s, inner) {
		t.Error("shelf", is)
	}
	tables := of(t, 1, pair(1, map[string]int{"a": 1}))
	if m, is := tables.Get(1); !is || m["a"] != 1 {
		t.Error("map", is)
	}
}

// Whatever the order in which pairs are put there, they rise.
func TestAllOrders(t *testing.T) {
	for n := range 7 {
		rising := keyed(t, 7, numbers(1, n+1)...)
		for _, row := range orders(n) {
			s := keyed(t, 7, row...)
			wantShelf(t, s, 7, texts(numbers(1, n+1)...)...)
			wantEqual(t, s, rising, true)
		}
	}
}

func TestListAndKeysAreNewMemory(t *testing.T) {
	s := keyed(t, 5, 1, 2, 3, 4)
	list, other := s.List(), s.List()
	keys, otherKeys := s.Keys(), s.Keys()
	// Whatever becomes of the lists, their spare room too, the shelf stays.
	clear(list[:cap(list)])
	clear(append(list, pair(9, "nine"))[:cap(list)])
	clear(keys[:cap(keys)])
	clear(append(keys, 9)[:cap(keys)])
	wantShelf(t, s, 5, texts(1, 2, 3, 4)...)
	wantOthers := func(k int) {
		t.Helper()
		if !slices.Equal(other, texts(1, 2, 3, 4)) || !slices.Equal(otherKeys, []int{1, 2, 3, 4}) {
			t.Fatalf("change %d: other lists are %v, %v", k, other, otherKeys)
		}
	}
	wantOthers(-1)
	// Whatever is made of the shelf, the lists stay.
	changes := []func(){
		func() { s, _ = s.With(5, "5") },
		func() { s, _ = s.With(3, "three") },
		func() { s = s.Without(1) },
		func() { s = s.Keep(isEven) },
		func() { s = s.Keep(nil) },
		func() { s, _ = s.With(1, "one") },
		func() { s = s.Keep(never[int, string]) },
		func() { s, _ = s.With(1, "one") },
	}
	for k, change := range changes {
		before, beforeKeys := s.List(), s.Keys()
		want, wantKeys := slices.Clone(before), slices.Clone(beforeKeys)
		change()
		if !slices.Equal(before, want) || !slices.Equal(beforeKeys, wantKeys) {
			t.Fatalf("change %d: lists are %v, %v", k, before, beforeKeys)
		}
		wantOthers(k)
	}
}

// P6.2

func TestOnePlace(t *testing.T) {
	s := New[int, string](1)
	one, is := s.With(5, "five")
	if !is {
		t.Fatal("no room")
	}
	wantShelf(t, one, 1, pair(5, "five"))
	for _, k := range []int{4, 6, math.MinInt, math.MaxInt, 0} {
		wantFull(t, one, k, "more")
	}
	other, is := one.With(5, "other")
	if !is {
		t.Fatal("another value is refused")
	}
	wantShelf(t, other, 1, pair(5, "other"))
	wantShelf(t, one, 1, pair(5, "five"))
	wantShelf(t, s, 1)
	wantFull(t, other, 4, "more")
	next, is := other.Without(5).With(4, "four")
	if !is {
		t.Fatal("no room")
	}
	wantShelf(t, next, 1, pair(4, "four"))
}

// In rising, falling and mixed order of keys: each is one pair more, till there
// is no room.
func TestGreatestRoom(t *testing.T) {
	const room = 1 << 16
	want := []Pair[int, string]{}
	for k := range room {
		want = append(want, pair(2*k, strconv.Itoa(k)))
	}
	falling, mixed := slices.Clone(want), slices.Clone(want)
	slices.Reverse(falling)
	rand.New(rand.NewSource(1)).Shuffle(room, func(i, j int) { mixed[i], mixed[j] = mixed[j], mixed[i] })
	for _, row := range [][]Pair[int, string]{want, falling, mixed} {
		s := New[int, string](room)
		for n, p := range row {
			next, is := s.With(p.Key, p.Val)
			if !is || next.Len() != n+1 || s.Len() != n {
				t.Fatal(n, is, next.Len(), s.Len())
			}
			s = next
		}
		wantShelf(t, s, room, want...)
		for _, k := range []int{-1, room + 1, math.MaxInt} {
			wantFull(t, s, k, "more")
		}
		wantChanges(t, s, want)
		if n := s.Keep(func(k int, _ string) bool { return k%4 == 0 }).Len(); n != room/2 {
			t.Fatal(n)
		}
		wantShelf(t, s, room, want...)
		for n, p := range row {
			s = s.Without(p.Key)
			if s.Len() != room-n-1 {
				t.Fatal(n, s.Len())
			}
		}
		wantShelf(t, s, room)
	}
}

// wantChanges changes the first, a middle and the last pair of a full shelf.
func wantChanges(t *testing.T, s Shelf[int, string], pairs []Pair[int, string]) {
	t.Helper()
	for _, at := range []int{0, 1, len(pairs) / 2, len(pairs) - 1} {
		p := pairs[at]
		changed := slices.Clone(pairs)
		changed[at].Val = "other"
		other, is := s.With(p.Key, "other")
		if !is {
			t.Fatal(at)
		}
		wantShelf(t, other, s.Room(), changed...)
		less := s.Without(p.Key)
		wantShelf(t, less, s.Room(), slices.Delete(slices.Clone(pairs), at, at+1)...)
		again, is := less.With(p.Key, p.Val)
		if !is {
			t.Fatal(at)
		}
		wantEqual(t, again, s, true)
	}
}

func TestRooms(t *testing.T) {
	for _, room := range []int{1, 2, 3, 4, 5, 64, 257} {
		s := New[int, string](room)
		for k := range room {
			next, is := s.With(k, strconv.Itoa(k))
			if !is {
				t.Fatalf("no room for %d of %d", k, room)
			}
			s = next
		}
		wantFull(t, s, room, "more")
		wantFull(t, s, -1, "more")
		for k := range room {
			next, is := s.With(k, "other")
			if !is || next.Len() != room || next.Room() != room {
				t.Fatal(room, k, is, next.Len(), next.Room())
			}
			less := s.Without(k)
			if less.Len() != room-1 || less.Room() != room {
				t.Fatal(room, k, less.Len(), less.Room())
			}
			more, is := less.With(room, "more")
			if !is || more.Len() != room {
				t.Fatal(room, k, is, more.Len())
			}
		}
	}
}

// At the first, a middle and the last key, and between and beside them.
func TestWithEverywhere(t *testing.T) {
	for n := range 7 {
		keys := []int{}
		for k := range n {
			keys = append(keys, 2*k+1)
		}
		s := keyed(t, 8, keys...)
		for k := range 2*n + 2 {
			want := slices.Clone(keys)
			at, there := slices.BinarySearch(want, k)
			if !there {
				want = slices.Insert(want, at, k)
			}
			pairs := texts(want...)
			pairs[at].Val = "new"
			next, is := s.With(k, "new")
			if !is {
				t.Fatal(n, k)
			}
			wantShelf(t, next, 8, pairs...)
			wantShelf(t, s, 8, texts(keys...)...)
		}
	}
}

func TestWithoutEverywhere(t *testing.T) {
	for n := range 7 {
		keys := []int{}
		for k := range n {
			keys = append(keys, 2*k+1)
		}
		for _, room := range []int{max(n, 1), 8} {
			s := keyed(t, room, keys...)
			for k := range 2*n + 2 {
				want := slices.DeleteFunc(slices.Clone(keys), func(key int) bool { return key == k })
				less := s.Without(k)
				wantShelf(t, less, room, texts(want...)...)
				wantGet(t, less, k, "", false)
				wantShelf(t, s, room, texts(keys...)...)
				wantShelf(t, less.Without(k), room, texts(want...)...)
			}
			wantShelf(t, s.Without(math.MinInt).Without(math.MaxInt), room, texts(keys...)...)
		}
	}
}

// Put there in all orders, and taken away in several.
func TestWithoutInAllOrders(t *testing.T) {
	for _, row := range orders(6) {
		for _, away := range [][]int{{1, 2, 3, 4, 5, 6}, {6, 5, 4, 3, 2, 1}, {4, 3, 5, 2, 6, 1}, row} {
			s, left := keyed(t, 6, row...), numbers(1, 7)
			for _, k := range away {
				s = s.Without(k)
				left = slices.DeleteFunc(left, func(n int) bool { return n == k })
				wantShelf(t, s, 6, texts(left...)...)
			}
		}
	}
}

// Each set of the keys that may be kept.
func TestKeepEach(t *testing.T) {
	for n := range 7 {
		keys := numbers(0, n)
		for _, room := range []int{max(n, 1), 9} {
			s := keyed(t, room, keys...)
			for set := range 1 << n {
				want := slices.DeleteFunc(slices.Clone(keys), func(k int) bool { return set>>k&1 == 0 })
				asked := []int{}
				kept := s.Keep(func(k int, v string) bool {
					if v != strconv.Itoa(k) {
						t.Fatalf("asked of %d, %s", k, v)
					}
					asked = append(asked, k)
					return set>>k&1 == 1
				})
				wantShelf(t, kept, room, texts(want...)...)
				wantShelf(t, s, room, texts(keys...)...)
				if !slices.Equal(asked, keys) {
					t.Fatalf("asked of %v, want %v", asked, keys)
				}
			}
		}
	}
}

func TestKeep(t *testing.T) {
	s := of(t, 5, pair("a", 3), pair("b", 1), pair("c", 2))
	wantShelf(t, s.Keep(nil), 5, pair("a", 3), pair("b", 1), pair("c", 2))
	wantShelf(t, s.Keep(always[string, int]), 5, pair("a", 3), pair("b", 1), pair("c", 2))
	wantShelf(t, s.Keep(never[string, int]), 5)
	wantShelf(t, s.Keep(func(k string, _ int) bool { return k > "a" }), 5, pair("b", 1), pair("c", 2))
	wantShelf(t, s.Keep(func(_ string, v int) bool { return v > 1 }), 5, pair("a", 3), pair("c", 2))
	wantShelf(t, s, 5, pair("a", 3), pair("b", 1), pair("c", 2))
	full := of(t, 3, s.List()...)
	kept := full.Keep(func(_ string, v int) bool { return v != 1 })
	wantShelf(t, kept, 3, pair("a", 3), pair("c", 2))
	more, is := kept.With("d", 4)
	if !is {
		t.Fatal("no room")
	}
	wantShelf(t, more, 3, pair("a", 3), pair("c", 2), pair("d", 4))
	wantFull(t, more, "b", 1)
	wantFull(t, full.Keep(nil), "d", 1)
}

// No call panics: a function that does is as good as none.
func TestKeepThatPanics(t *testing.T) {
	for at := range 4 {
		for _, what := range []any{"x", 1, errors.New("x"), nil} {
			s := keyed(t, 5, 0, 1, 2, 3)
			kept := s.Keep(func(k int, _ string) bool {
				if k == at {
					panic(what)
				}
				return k%2 == 0
			})
			wantShelf(t, kept, 5, texts(0, 1, 2, 3)...)
			wantShelf(t, s, 5, texts(0, 1, 2, 3)...)
		}
	}
	s := keyed(t, 5, 0, 1)
	var none map[int]int
	wantShelf(t, s.Keep(func(k int, _ string) bool { none[k] = 1; return false }), 5, texts(0, 1)...)
}

// The function may ask the very shelf, and make others of it.
func TestKeepThatAsks(t *testing.T) {
	s := keyed(t, 5, 1, 2, 3, 4)
	kept := s.Keep(func(k int, _ string) bool {
		list := s.Without(k).List()
		clear(list)
		s.With(k, "other")
		clear(s.Keys())
		_, is := s.Get(k + 1)
		return is
	})
	wantShelf(t, kept, 5, texts(1, 2, 3)...)
	wantShelf(t, s, 5, texts(1, 2, 3, 4)...)
}

// P6.3

func TestEqual(t *testing.T) {
	base := keyed(t, 4, 1, 2, 3)
	wantEqual(t, base, base, true)
	wantEqual(t, base, keyed(t, 4, 3, 1, 2), true)
	// The room counts.
	wantEqual(t, base, keyed(t, 3, 1, 2, 3), false)
	wantEqual(t, base, keyed(t, 5, 1, 2, 3), false)
	wantEqual(t, New[int, string](1), New[int, string](2), false)
	wantEqual(t, New[int, string](1), New[int, string](1), true)
	wantEqual(t, New[int, string](1), Shelf[int, string]{}, false)
	wantEqual(t, New[int, string](0), New[int, string](-7), true)
	// Each pair counts.
	wantEqual(t, base, New[int, string](4), false)
	for k := 1; k <= 3; k++ {
		wantEqual(t, base, base.Without(k), false)
		other, _ := base.With(k, "other")
		wantEqual(t, base, other, false)
		moved, _ := base.Without(k).With(k+10, strconv.Itoa(k))
		wantEqual(t, base, moved, false)
	}
	more, _ := base.With(4, "4")
	wantEqual(t, base, more, false)
	// The same keys and values, but not the same pairs.
	wantEqual(t, of(t, 4, pair(1, "a"), pair(2, "b")), of(t, 4, pair(1, "b"), pair(2, "a")), false)
}

// Nothing but the room and the pairs counts: not how a shelf came to them.
func TestEqualByOtherWays(t *testing.T) {
	want := of(t, 6, pair(1, "a"), pair(3, "c"), pair(5, "e"))
	first := func(s Shelf[int, string], _ bool) Shelf[int, string] { return s }
	full := keyed(t, 6, 6, 5, 4, 3, 2, 1)
	ways := []Shelf[int, string]{
		of(t, 6, pair(5, "e"), pair(3, "c"), pair(1, "a")),
		of(t, 6, pair(3, "x"), pair(3, "c"), pair(5, "e"), pair(1, "y"), pair(1, "a")),
		first(first(first(full.Keep(func(k int, _ string) bool { return k%2 == 1 }).With(1, "a")).With(3, "c")).With(5, "e")),
		first(first(first(full.Without(2).With(5, "e")).With(1, "a")).Without(6).Without(4).With(3, "c")),
		first(first(full.Keep(never[int, string]).With(3, "c")).With(1, "a")).Without(7),
		want.Keep(nil),
		want.Keep(always[int, string]),
		want.Without(2),
		first(want.Without(3).With(3, "c")),
		first(want.With(3, "c")),
		first(want.With(0, "z")).Without(0),
		first(want.With(9, "z")).Without(9),
	}
	ways[4] = first(ways[4].With(5, "e"))
	for k, s := range ways {
		wantShelf(t, s, 6, pair(1, "a"), pair(3, "c"), pair(5, "e"))
		for other, o := range ways {
			if !Equal(s, o) {
				t.Errorf("%d and %d are not the same", k, other)
			}
		}
		wantEqual(t, s, want, true)
	}
}

func TestEqualOfSeveralTypes(t *testing.T) {
	a, b := 1, 1
	wantEqual(t, of(t, 2, pair("k", &a)), of(t, 2, pair("k", &a)), true)
	wantEqual(t, of(t, 2, pair("k", &a)), of(t, 2, pair("k", &b)), false)
	wantEqual(t, of(t, 2, pair(1.5, thing{"a", 1})), of(t, 2, pair(1.5, thing{"a", 1})), true)
	wantEqual(t, of(t, 2, pair(1.5, thing{"a", 1})), of(t, 2, pair(1.5, thing{"a", 2})), false)
	wantEqual(t, of(t, 2, pair(1, [2]bool{true})), of(t, 2, pair(1, [2]bool{true})), true)
	wantEqual(t, of(t, 2, pair(1, [2]bool{true})), of(t, 2, pair(1, [2]bool{})), false)
	wantEqual(t, of(t, 2, pair[int, any](1, 1)), of(t, 2, pair[int, any](1, int64(1))), false)
	wantEqual(t, of(t, 2, pair[int, any](1, nil)), of(t, 2, pair[int, any](1, nil)), true)
	wantEqual(t, of(t, 2, pair[int, error](1, nil)), of(t, 2, pair[int, error](1, nil)), true)
	wantEqual(t, of(t, 2, pair[int, error](1, nil)), of(t, 2, pair[int, error](1, errors.New("x"))), false)
}

// Interfaces may hold values of which == panics: no call does.
func TestEqualOfWhatCantBeCompared(t *testing.T) {
	lists := of(t, 2, pair[int, any](1, []int{1}))
	wantEqual(t, lists, lists, false)
	wantEqual(t, lists, of(t, 2, pair[int, any](1, []int{1})), false)
	wantEqual(t, lists, of(t, 2, pair[int, any](1, 1)), false)
	wantEqual(t, lists, of(t, 2, pair[int, any](2, []int{1})), false)
	wantEqual(t, lists, of(t, 3, pair[int, any](1, []int{1})), false)
	maps := of(t, 2, pair[int, any](1, 5), pair[int, any](2, map[int]int{}))
	wantEqual(t, maps, maps, false)
	wantEqual(t, maps.Without(2), maps.Without(2), true)
	type box struct{ what any }
	boxed := of(t, 2, pair(1, box{func() {}}))
	wantEqual(t, boxed, boxed, false)
}

// To an ordered table NaN is one key, below all others, and 0 and -0 are one
// key too.
func TestOddFloats(t *testing.T) {
	nan, minus := math.NaN(), math.Copysign(0, -1)
	s := of(t, 3, pair(1.0, "one"), pair(nan, "none"), pair(math.Inf(-1), "least"))
	keys := s.Keys()
	if len(keys) != 3 || !math.IsNaN(keys[0]) || !math.IsInf(keys[1], -1) || keys[2] != 1 {
		t.Fatal(keys)
	}
	wantGet(t, s, nan, "none", true)
	wantGet(t, s, -nan, "none", true)
	other, is := s.With(nan, "other")
	if !is || other.Len() != 3 {
		t.Fatal(is, other.Len())
	}
	wantGet(t, other, nan, "other", true)
	wantGet(t, s, nan, "none", true)
	wantEqual(t, s, s, true)
	wantEqual(t, s, other, false)
	wantShelf(t, s.Without(nan), 3, pair(math.Inf(-1), "least"), pair(1.0, "one"))
	wantShelf(t, s.Keep(func(k float64, _ string) bool { return k == k }), 3, pair(math.Inf(-1), "least"), pair(1.0, "one"))
	if _, is := s.With(2, "two"); is {
		t.Fatal("room for 2")
	}

	zero := of(t, 1, pair(0.0, "a"))
	again, is := zero.With(minus, "b")
	if !is || again.Len() != 1 || math.Signbit(again.Keys()[0]) {
		t.Fatal(is, again.List())
	}
	wantGet(t, again, 0, "b", true)
	wantGet(t, again, minus, "b", true)
	wantEqual(t, again, of(t, 1, pair(minus, "b")), true)
	wantShelf(t, zero.Without(minus), 1)
}

// A value is what it is by ==: NaN isn't itself.
func TestEqualOfOddValues(t *testing.T) {
	s := of(t, 1, pair(1, math.NaN()))
	wantEqual(t, s, s, false)
	wantEqual(t, of(t, 1, pair(1, 0.0)), of(t, 1, pair(1, math.Copysign(0, -1))), true)
}

// With, Without and Keep of one shelf, several times and one behind the
// other: each is looked at again at the end.
func TestStaysAsItWas(t *testing.T) {
	type state struct {
		s     Shelf[int, string]
		pairs []Pair[int, string]
	}
	states := []state{{keyed(t, 6, 2, 4, 6, 8), texts(2, 4, 6, 8)}}
	add := func(s Shelf[int, string]) { states = append(states, state{s, s.List()}) }
	for range 3 {
		for _, from := range slices.Clone(states)[max(0, len(states)-20):] {
			for _, k := range []int{1, 2, 5, 8, 9} {
				with, _ := from.s.With(k, "with "+strconv.Itoa(len(states)))
				add(with)
				add(from.s.Without(k))
				add(from.s.Keep(func(key int, _ string) bool { return key != k }))
				add(from.s.Keep(nil))
			}
		}
	}
	for _, st := range states {
		wantShelf(t, st.s, 6, st.pairs...)
	}
}

// Two that are made of one shelf don't stand in each other's way, wherever
// the one that is put there stands.
func TestTwoOfOne(t *testing.T) {
	for n := range 9 {
		keys := []int{}
		for k := range n {
			keys = append(keys, 10*k)
		}
		s := keyed(t, 20, keys...)
		for _, way := range []Shelf[int, string]{s, s.Without(5), s.Keep(nil), s.Keep(always[int, string]), keyed(t, 20, append(keys, -5)...).Without(-5), keyed(t, 20, append(keys, 995)...).Without(995)} {
			for a := -1; a <= 10*n; a++ {
				one, _ := way.With(a, "one")
				for _, b := range []int{-1, a, a + 1, 10*n + 1} {
					two, _ := way.With(b, "two")
					wantGet(t, one, a, "one", true)
					wantGet(t, two, b, "two", true)
					if _, is := two.Get(a); is && a != b && a%10 != 0 {
						t.Fatalf("%d is there with %d", a, b)
					}
				}
			}
			wantShelf(t, way, 20, texts(keys...)...)
		}
	}
}

// model is a plain table against which a shelf is held.
type model struct {
	room  int
	pairs map[int]string
}

func (m model) list() []Pair[int, string] {
	list := []Pair[int, string]{}
	for _, k := range slices.Sorted(maps.Keys(m.pairs)) {
		list = append(list, pair(k, m.pairs[k]))
	}
	return list
}

func (m model) with(k int, v string) (model, bool) {
	if _, is := m.pairs[k]; !is && len(m.pairs) >= m.room {
		return m, false
	}
	next := maps.Clone(m.pairs)
	next[k] = v
	return model{m.room, next}, true
}

func (m model) keep(is func(int, string) bool) model {
	next := maps.Clone(m.pairs)
	maps.DeleteFunc(next, func(k int, v string) bool { return !is(k, v) })
	return model{m.room, next}
}

// step does one change to both, as code tells, and holds the answers against
// each other.
func step(t testing.TB, s Shelf[int, string], m model, code int, v string) (Shelf[int, string], model) {
	t.Helper()
	k := code / 4
	switch code % 4 {
	case 0, 1:
		next, is := s.With(k, v)
		want, there := m.with(k, v)
		if is != there {
			t.Fatalf("With(%d) of %v = %v", k, m.list(), is)
		}
		return next, want
	case 2:
		return s.Without(k), m.keep(func(key int, _ string) bool { return key != k })
	default:
		is := func(key int, v string) bool { return (key+len(v))%3 != k%3 }
		return s.Keep(is), m.keep(is)
	}
}

// Long rows of changes, held against a plain table; behind each row all that
// were made in it are looked at again.
func TestRows(t *testing.T) {
	for seed := range int64(200) {
		r := rand.New(rand.NewSource(seed))
		room := 1 + r.Intn(12)
		s, m := New[int, string](room), model{room, map[int]string{}}
		shelves, models := []Shelf[int, string]{s}, []model{m}
		for n := range 150 {
			if r.Intn(10) == 0 {
				back := r.Intn(len(shelves))
				s, m = shelves[back], models[back]
			}
			code := 4*r.Intn(2*room) + r.Intn(4)
			if r.Intn(4) > 0 {
				code -= code % 4
			}
			s, m = step(t, s, m, code, strings.Repeat("v", n%5))
			wantShelf(t, s, room, m.list()...)
			shelves, models = append(shelves, s), append(models, m)
		}
		for k := range shelves {
			wantShelf(t, shelves[k], room, models[k].list()...)
			other := r.Intn(len(shelves))
			wantEqual(t, shelves[k], shelves[other], maps.Equal(models[k].pairs, models[other].pairs))
		}
	}
}

// All short rows of changes on few keys.
func TestShortRows(t *testing.T) {
	for room := 1; room <= 3; room++ {
		type made struct {
			s Shelf[int, string]
			m model
		}
		row := []made{{New[int, string](room), model{room, map[int]string{}}}}
		for range 4 {
			next := []made{}
			for _, one := range row {
				for code := range 12 {
					s, m := step(t, one.s, one.m, code, "v")
					wantShelf(t, s, room, m.list()...)
					next = append(next, made{s, m})
				}
			}
			row = next[:min(len(next), 2000)]
		}
		for _, one := range row {
			wantShelf(t, one.s, room, one.m.list()...)
			wantEqual(t, one.s, of(t, room, one.m.list()...), true)
		}
	}
}

// FuzzShelf does what bytes tell, and holds it against a plain table.
func FuzzShelf(f *testing.F) {
	f.Add(3, []byte{0, 4, 8, 12, 2, 3, 1})
	f.Add(1, []byte{0, 4, 0, 2, 4, 7})
	f.Add(0, []byte{0, 2, 3})
	f.Add(1<<16, []byte{200, 100, 150, 50, 101, 102, 103})
	f.Fuzz(func(t *testing.T, room int, codes []byte) {
		s := New[int, string](room)
		m := model{s.Room(), map[int]string{}}
		if is := room >= 1 && room <= 1<<16; s.Room() != room && is || s.Room() != 0 && !is {
			t.Fatal(room, s.Room())
		}
		shelves, models := []Shelf[int, string]{s}, []model{m}
		for n, code := range codes[:min(len(codes), 200)] {
			s, m = step(t, s, m, int(code), strconv.Itoa(n))
			wantShelf(t, s, m.room, m.list()...)
			shelves, models = append(shelves, s), append(models, m)
		}
		for k := range shelves {
			wantShelf(t, shelves[k], m.room, models[k].list()...)
			wantEqual(t, shelves[k], s, maps.Equal(models[k].pairs, m.pairs))
		}
	})
}

// FuzzTexts puts pieces of a text there as keys: they rise, each stands there
// once with its last value, and back to front they come to the same keys.
func FuzzTexts(f *testing.F) {
	f.Add("b a c a", 3)
	f.Add("", 1)
	f.Add("\xff \x00 \xff\x00", 2)
	f.Add("a b c d e", 4)
	f.Fuzz(func(t *testing.T, text string, room int) {
		words := strings.Split(text, " ")
		words = words[:min(len(words), 100)]
		s, want := New[string, int](room), map[string]int{}
		for n, w := range words {
			_, there := want[w]
			next, is := s.With(w, n)
			if is != (there || len(want) < s.Room()) {
				t.Fatalf("With(%q) = %v, %d of %d", w, is, len(want), s.Room())
			}
			if is {
				want[w] = n
			}
			s = next
		}
		pairs := []Pair[string, int]{}
		for _, w := range slices.Sorted(maps.Keys(want)) {
			pairs = append(pairs, pair(w, want[w]))
		}
		wantShelf(t, s, s.Room(), pairs...)
		if s.Room() == 0 {
			return
		}
		slices.Reverse(pairs)
		wantEqual(t, s, of(t, room, pairs...), true)
		for _, w := range words {
			less := s.Without(w)
			wantGet(t, less, w, 0, false)
			_, is := want[w]
			wantEqual(t, less, s, !is)
		}
	})
}
