package ring

import (
	"math"
	"slices"
	"strconv"
	"testing"
)

// pair is a thing of several fields.
type pair struct {
	name string
	n    int
}

// of is a ring with these things.
func of[T any](t testing.TB, room int, things ...T) *Ring[T] {
	t.Helper()
	r := New[T](room)
	if r == nil {
		t.Fatalf("New(%d) = nil", room)
	}
	for _, x := range things {
		if !r.Push(x) {
			t.Fatalf("no room for %v of %v in %d", x, things, room)
		}
	}
	return r
}

// round is such a ring whose first thing stands skip places further round.
func round[T any](t testing.TB, room, skip int, things ...T) *Ring[T] {
	t.Helper()
	r := New[T](room)
	// Full once, so that all places are there to go round.
	for r.Push(*new(T)) {
	}
	for range room {
		r.Pop()
	}
	for range skip {
		r.Push(*new(T))
		r.Pop()
	}
	for _, x := range things {
		if !r.Push(x) {
			t.Fatalf("no room for %v of %v in %d", x, things, room)
		}
	}
	return r
}

// wantRing holds a ring against its room and all that stand there.
func wantRing[T comparable](t testing.TB, r *Ring[T], room int, things ...T) {
	t.Helper()
	if r == nil {
		t.Fatalf("no ring, want %d of %v", room, things)
	}
	if r.Len() != len(things) || r.Room() != room {
		t.Fatalf("Len %d, Room %d, want %d, %d", r.Len(), r.Room(), len(things), room)
	}
	if list := r.List(); !slices.Equal(list, things) {
		t.Fatalf("List %v, want %v", list, things)
	}
	x, is := r.Peek()
	if len(things) == 0 && (is || x != *new(T)) {
		t.Fatalf("Peek of an empty one = %v, %v", x, is)
	}
	if len(things) > 0 && (!is || x != things[0]) {
		t.Fatalf("Peek = %v, %v, want %v", x, is, things[0])
	}
}

func wantPush[T any](t testing.TB, r *Ring[T], x T, want bool) {
	t.Helper()
	if is := r.Push(x); is != want {
		t.Fatalf("Push(%v) = %v", x, is)
	}
}

func wantPop[T comparable](t testing.TB, r *Ring[T], want T, there bool) {
	t.Helper()
	if x, is := r.Pop(); x != want || is != there {
		t.Fatalf("Pop = %v, %v, want %v, %v", x, is, want, there)
	}
}

// wantPops pops all and holds them against things.
func wantPops[T comparable](t testing.TB, r *Ring[T], things ...T) {
	t.Helper()
	for _, x := range things {
		wantPop(t, r, x, true)
	}
	wantPop(t, r, *new(T), false)
	wantRing(t, r, r.Room())
}

// wantNoneKept looks at the places at which nothing stands: they hold nothing,
// and there are no more of them than there is room for.
func wantNoneKept[T comparable](t testing.TB, r *Ring[T]) {
	t.Helper()
	if len(r.places) > r.room {
		t.Fatalf("%d places, room for %d", len(r.places), r.room)
	}
	for k := r.count; k < len(r.places); k++ {
		if *r.at(k) != (place[T]{}) {
			t.Fatalf("place %d of %d keeps %v", k, r.count, *r.at(k))
		}
	}
	for _, p := range r.places[len(r.places):cap(r.places)] {
		if p != (place[T]{}) {
			t.Fatalf("spare room keeps %v", p)
		}
	}
}

func numbers(from, to int) []int {
	list := []int{}
	for n := from; n < to; n++ {
		list = append(list, n)
	}
	return list
}

func isEven(n int) bool { return n%2 == 0 }

func always(int) bool { return true }

func never(int) bool { return false }

// P5.1

func TestNew(t *testing.T) {
	for _, room := range []int{1, 2, 3, 16, 64, 255, 256, 1000, 1<<16 - 1, 1 << 16} {
		wantRing(t, New[int](room), room)
		wantRing(t, New[string](room), room)
		wantRing(t, New[*int](room), room)
		wantRing(t, New[struct{}](room), room)
	}
}

func TestNewWithoutRoom(t *testing.T) {
	for _, room := range []int{0, -1, -2, -1 << 16, math.MinInt, math.MinInt + 1, 1<<16 + 1, 1 << 17, math.MaxInt32, math.MaxInt32 + 1, 1 << 32, 1<<32 + 1, math.MaxInt - 1, math.MaxInt} {
		if r := New[int](room); r != nil {
			t.Errorf("New(%d) = %v", room, r)
		}
		if r := New[pair](room); r != nil {
			t.Errorf("New(%d) = %v", room, r)
		}
	}
}

func TestTwoPlaces(t *testing.T) {
	r := New[string](2)
	wantPush(t, r, "a", true)
	wantRing(t, r, 2, "a")
	wantPush(t, r, "b", true)
	wantRing(t, r, 2, "a", "b")
	wantPush(t, r, "c", false)
	wantRing(t, r, 2, "a", "b")
	wantPop(t, r, "a", true)
	wantRing(t, r, 2, "b")
	wantPush(t, r, "c", true)
	wantRing(t, r, 2, "b", "c")
	wantPush(t, r, "d", false)
	wantPops(t, r, "b", "c")
}

func TestOnePlace(t *testing.T) {
	r := New[int](1)
	wantPop(t, r, 0, false)
	for n := range 100 {
		wantPush(t, r, n, true)
		wantRing(t, r, 1, n)
		wantPush(t, r, -1, false)
		wantRing(t, r, 1, n)
		wantPop(t, r, n, true)
		wantRing(t, r, 1)
		wantPop(t, r, 0, false)
	}
}

func TestGreatestRoom(t *testing.T) {
	const room = 1 << 16
	r := of(t, room, numbers(0, room)...)
	wantPush(t, r, room, false)
	wantRing(t, r, room, numbers(0, room)...)
	for n := range 3 * room {
		wantPop(t, r, n, true)
		wantPush(t, r, n+room, true)
		wantPush(t, r, -1, false)
		if r.Len() != room {
			t.Fatal(n, r.Len())
		}
	}
	wantRing(t, r, room, numbers(3*room, 4*room)...)
	if n := r.Drop(isEven); n != room/2 {
		t.Fatal(n)
	}
	if sum := Fold(r, 0, func(sum, n int) int { return sum + n%2 }); sum != room/2 {
		t.Fatal(sum)
	}
	if n := r.Clear(); n != room/2 {
		t.Fatal(n)
	}
	wantRing(t, r, room)
}

func TestSeveralTypes(t *testing.T) {
	a, b := 1, 1
	wantPops(t, of(t, 3, &a, &b, nil), &a, &b, nil)
	wantPops(t, of(t, 3, "", "a", "\x00\xff"), "", "a", "\x00\xff")
	wantPops(t, of(t, 3, pair{"a", 1}, pair{}, pair{"a", 2}), pair{"a", 1}, pair{}, pair{"a", 2})
	wantPops(t, of(t, 3, [2]byte{1, 2}, [2]byte{}), [2]byte{1, 2}, [2]byte{})
	wantPops(t, of(t, 3, struct{}{}, struct{}{}), struct{}{}, struct{}{})
	wantPops(t, of(t, 3, false, true, false), false, true, false)
	wantPops(t, of[any](t, 3, 1, "a", nil), any(1), any("a"), nil)
	wantPops(t, of(t, 3, 1.5, math.Inf(1)), 1.5, math.Inf(1))

	lists := of(t, 2, []int{1, 2}, nil)
	if list, is := lists.Pop(); !is || !slices.Equal(list, []int{1, 2}) {
		t.Error(list, is)
	}
	if list, is := lists.Pop(); !is || list != nil {
		t.Error(list, is)
	}

	called := of(t, 1, func() int { return 7 })
	if f, is := called.Pop(); !is || f() != 7 {
		t.Error("function", is)
	}

	inner := of(t, 1, 5)
	if r, is := of(t, 1, inner).Pop(); !is || r != inner {
		t.Error("ring", is)
	}
}

// A zero value that was pushed is there, and one that wasn't is not.
func TestZeroValues(t *testing.T) {
	r := of(t, 3, 0, 0)
	wantRing(t, r, 3, 0, 0)
	wantPops(t, r, 0, 0)
}

func TestEmpty(t *testing.T) {
	emptied := of(t, 3, 7, 8, 9)
	for range 3 {
		emptied.Pop()
	}
	cleared := of(t, 3, 7, 8, 9)
	cleared.Clear()
	dropped := of(t, 3, 7, 8, 9)
	dropped.Drop(always)
	for name, r := range map[string]*Ring[int]{"new": New[int](3), "emptied": emptied, "cleared": cleared, "dropped": dropped, "round": round[int](t, 3, 2)} {
		for range 3 {
			wantRing(t, r, 3)
			wantPop(t, r, 0, false)
			if n := r.Clear(); n != 0 {
				t.Errorf("%s: Clear = %d", name, n)
			}
			for _, is := range []func(int) bool{always, never, nil} {
				if n := r.Drop(is); n != 0 {
					t.Errorf("%s: Drop = %d", name, n)
				}
			}
			wantRing(t, Map(r, strconv.Itoa), 3)
			if s := Fold(r, "u", func(string, int) string { return "f" }); s != "u" {
				t.Errorf("%s: Fold = %s", name, s)
			}
		}
		for n := range 3 {
			wantPush(t, r, n+1, true)
		}
		wantPush(t, r, 4, false)
		wantPops(t, r, 1, 2, 3)
	}
}

func TestPeekStays(t *testing.T) {
	r := of(t, 2, "a", "b")
	for range 5 {
		if x, is := r.Peek(); x != "a" || !is {
			t.Fatal(x, is)
		}
		wantRing(t, r, 2, "a", "b")
	}
	wantPops(t, r, "a", "b")
}

func TestClear(t *testing.T) {
	for room := 1; room <= 5; room++ {
		for skip := range room + 1 {
			for count := range room + 1 {
				r := round(t, room, skip, numbers(1, count+1)...)
				if n := r.Clear(); n != count {
					t.Fatalf("Clear = %d, want %d", n, count)
				}
				wantRing(t, r, room)
				wantPop(t, r, 0, false)
				wantNoneKept(t, r)
				for n := range room {
					wantPush(t, r, n, true)
				}
				wantPush(t, r, -1, false)
				wantPops(t, r, numbers(0, room)...)
			}
		}
	}
}

func TestListIsNewMemory(t *testing.T) {
	r := round(t, 5, 3, 1, 2, 3, 4)
	list, other := r.List(), r.List()
	// Whatever becomes of the list, its spare room too, the ring stays.
	clear(list)
	clear(append(list, 0)[:cap(list)])
	wantRing(t, r, 5, 1, 2, 3, 4)
	if !slices.Equal(other, []int{1, 2, 3, 4}) {
		t.Fatalf("another list is %v", other)
	}
	// Whatever becomes of the ring, the list stays.
	changes := []func(){
		func() { r.Push(5) },
		func() { r.Pop() },
		func() { r.Pop(); r.Push(6); r.Push(7); r.Push(8) },
		func() { r.Drop(isEven) },
		func() { Map(r, strconv.Itoa) },
		func() { r.Clear() },
		func() { r.Push(9); r.Push(10); r.Push(11); r.Push(12); r.Push(13) },
	}
	for k, change := range changes {
		before := r.List()
		want := slices.Clone(before)
		change()
		if !slices.Equal(before, want) || !slices.Equal(other, []int{1, 2, 3, 4}) {
			t.Fatalf("change %d: lists are %v, %v", k, before, other)
		}
	}
}

func TestNil(t *testing.T) {
	var r *Ring[int]
	if r.Push(1) || r.Len() != 0 || r.Room() != 0 || len(r.List()) != 0 || r.Clear() != 0 {
		t.Error("a nil ring holds something")
	}
	wantPop(t, r, 0, false)
	if x, is := r.Peek(); x != 0 || is {
		t.Errorf("Peek = %d, %v", x, is)
	}
	refuse := func(int) bool { t.Error("called"); return true }
	if r.Drop(refuse) != 0 || r.Drop(nil) != 0 {
		t.Error("Drop of nil")
	}
	if Map(r, func(int) string { t.Error("called"); return "" }) != nil || Map[int, string](r, nil) != nil {
		t.Error("Map of nil")
	}
	if Fold(r, "u", func(string, int) string { t.Error("called"); return "" }) != "u" || Fold(r, "u", nil) != "u" {
		t.Error("Fold of nil")
	}
	var pairs *Ring[pair]
	wantPop(t, pairs, pair{}, false)
	var pointers *Ring[*int]
	wantPop(t, pointers, nil, false)
}

// P5.2

func TestDrop(t *testing.T) {
	cases := []struct {
		name   string
		is     func(int) bool
		remain []int
	}{
		{"none", never, []int{1, 2, 3, 4, 5}},
		{"all", always, nil},
		{"first", func(n int) bool { return n == 1 }, []int{2, 3, 4, 5}},
		{"front", func(n int) bool { return n < 4 }, []int{4, 5}},
		{"middle", func(n int) bool { return n == 3 }, []int{1, 2, 4, 5}},
		{"middle ones", func(n int) bool { return n > 1 && n < 5 }, []int{1, 5}},
		{"last", func(n int) bool { return n == 5 }, []int{1, 2, 3, 4}},
		{"end", func(n int) bool { return n > 2 }, []int{1, 2}},
		{"both ends", func(n int) bool { return n == 1 || n == 5 }, []int{2, 3, 4}},
		{"even", isEven, []int{1, 3, 5}},
		{"odd", func(n int) bool { return n%2 == 1 }, []int{2, 4}},
	}
	for _, c := range cases {
		for room := 5; room <= 8; room++ {
			for skip := range room + 1 {
				r := round(t, room, skip, 1, 2, 3, 4, 5)
				if n := r.Drop(c.is); n != 5-len(c.remain) {
					t.Fatalf("%s: Drop = %d, want %d", c.name, n, 5-len(c.remain))
				}
				wantRing(t, r, room, c.remain...)
				wantNoneKept(t, r)
				for n := range room - len(c.remain) {
					wantPush(t, r, 10+n, true)
				}
				wantPush(t, r, -1, false)
				wantPops(t, r, append(slices.Clone(c.remain), numbers(10, 10+room-len(c.remain))...)...)
			}
		}
	}
}

// All sets of things that may go, of all lengths up to 6, from all places on.
func TestDropAnySet(t *testing.T) {
	const room = 6
	for skip := range room {
		for count := range room + 1 {
			for set := range 1 << count {
				r := round(t, room, skip, numbers(0, count)...)
				remain := []int{}
				for n := range count {
					if set>>n&1 == 0 {
						remain = append(remain, n)
					}
				}
				if n := r.Drop(func(n int) bool { return set>>n&1 == 1 }); n != count-len(remain) {
					t.Fatalf("Drop of %b = %d", set, n)
				}
				wantRing(t, r, room, remain...)
				wantPops(t, r, remain...)
			}
		}
	}
}

// Of equal things each is asked by itself.
func TestDropOfEqualThings(t *testing.T) {
	r := round(t, 5, 3, "a", "a", "b", "a")
	asked := 0
	n := r.Drop(func(s string) bool {
		asked++
		return asked == 2
	})
	if n != 1 || asked != 4 {
		t.Fatalf("Drop = %d, asked %d", n, asked)
	}
	wantRing(t, r, 5, "a", "b", "a")
	if n := r.Drop(func(s string) bool { return s == "a" }); n != 2 {
		t.Fatalf("Drop = %d", n)
	}
	wantRing(t, r, 5, "b")
}

func TestFunctionsSeeEachOnceInOrder(t *testing.T) {
	for room := 1; room <= 5; room++ {
		for skip := range room {
			for count := range room + 1 {
				things := numbers(1, count+1)
				r := round(t, room, skip, things...)
				var dropped, mapped, folded []int
				Map(r, func(n int) int { mapped = append(mapped, n); return n })
				Fold(r, 0, func(u, n int) int { folded = append(folded, n); return u })
				r.Drop(func(n int) bool { dropped = append(dropped, n); return true })
				if !slices.Equal(dropped, things) || !slices.Equal(mapped, things) || !slices.Equal(folded, things) {
					t.Fatalf("seen %v, %v, %v, want %v", dropped, mapped, folded, things)
				}
			}
		}
	}
}

func TestMap(t *testing.T) {
	for room := 1; room <= 5; room++ {
		for skip := range room {
			for count := range room + 1 {
				r := round(t, room, skip, numbers(1, count+1)...)
				texts := []string{}
				for n := range count {
					texts = append(texts, strconv.Itoa(n+1))
				}
				m := Map(r, strconv.Itoa)
				wantRing(t, m, room, texts...)
				wantRing(t, r, room, numbers(1, count+1)...)
				for range room - count {
					wantPush(t, m, "x", true)
					texts = append(texts, "x")
				}
				wantPush(t, m, "y", false)
				wantPops(t, m, texts...)
				wantRing(t, r, room, numbers(1, count+1)...)
			}
		}
	}
}

func TestMapIsAnotherRing(t *testing.T) {
	r := of(t, 3, 1, 2)
	m := Map(r, func(n int) int { return n })
	wantPush(t, m, 3, true)
	wantPop(t, m, 1, true)
	wantRing(t, r, 3, 1, 2)
	r.Clear()
	wantRing(t, m, 3, 2, 3)
}

func TestMapToSeveralTypes(t *testing.T) {
	r := round(t, 3, 2, 1, 2, 3)
	wantRing(t, Map(r, isEven), 3, false, true, false)
	wantRing(t, Map(r, func(n int) pair { return pair{strconv.Itoa(n), n} }), 3, pair{"1", 1}, pair{"2", 2}, pair{"3", 3})
	wantRing(t, Map(r, func(int) *int { return nil }), 3, nil, nil, nil)
	wantRing(t, Map(r, func(int) struct{} { return struct{}{} }), 3, struct{}{}, struct{}{}, struct{}{})
}

func TestFold(t *testing.T) {
	join := func(s string, n int) string { return "(" + s + strconv.Itoa(n) + ")" }
	for room := 3; room <= 5; room++ {
		for skip := range room {
			r := round(t, room, skip, 1, 2, 3)
			if s := Fold(r, "u", join); s != "(((u1)2)3)" {
				t.Fatalf("Fold = %s", s)
			}
			if s := Fold(r, "", join); s != "(((1)2)3)" {
				t.Fatalf("Fold = %s", s)
			}
			wantRing(t, r, room, 1, 2, 3)
		}
	}
	if s := Fold(of(t, 1, 7), "u", join); s != "(u7)" {
		t.Errorf("Fold = %s", s)
	}
	if s := Fold(New[int](1), "u", join); s != "u" {
		t.Errorf("Fold of none = %s", s)
	}
	if list := Fold(of(t, 2, "a", "b"), nil, func(list []string, s string) []string { return append(list, s) }); !slices.Equal(list, []string{"a", "b"}) {
		t.Errorf("Fold = %v", list)
	}
}

func TestNilFunctions(t *testing.T) {
	for skip := range 4 {
		r := round(t, 4, skip, 1, 2, 3)
		if n := r.Drop(nil); n != 0 {
			t.Errorf("Drop = %d", n)
		}
		if m := Map[int, int](r, nil); m != nil {
			t.Errorf("Map = %v", m.List())
		}
		if n := Fold(r, 7, nil); n != 7 {
			t.Errorf("Fold = %d", n)
		}
		wantRing(t, r, 4, 1, 2, 3)
	}
	if Map[int, int](New[int](1), nil) != nil {
		t.Error("Map of an empty one")
	}
}

// P1: no call panics, whatever it is given: not even a function that does.
func TestFunctionsThatPanic(t *testing.T) {
	for at := 1; at <= 3; at++ {
		r := round(t, 4, 2, 1, 2, 3)
		fail := func(n int) {
			if n == at {
				panic("at " + strconv.Itoa(n))
			}
		}
		if n := r.Drop(func(n int) bool { fail(n); return true }); n != 0 {
			t.Errorf("Drop = %d", n)
		}
		wantRing(t, r, 4, 1, 2, 3)
		if m := Map(r, func(n int) int { fail(n); return n }); m != nil {
			t.Errorf("Map = %v", m.List())
		}
		if n := Fold(r, 100, func(u, n int) int { fail(n); return u + n }); n != 100 {
			t.Errorf("Fold = %d", n)
		}
		wantRing(t, r, 4, 1, 2, 3)
		wantPush(t, r, 4, true)
		wantPops(t, r, 1, 2, 3, 4)
	}
}

// A function that works on the very ring: what it pushed stands there, what it
// popped doesn't, and those go of which it answers true.
func TestDropByFunctionThatChangesTheRing(t *testing.T) {
	cases := []struct {
		name   string
		change func(r *Ring[int], n int)
		went   int
		remain []int
	}{
		{"push", func(r *Ring[int], n int) { r.Push(10 + n) }, 2, []int{1, 3, 11}},
		{"pop", func(r *Ring[int], n int) { r.Pop() }, 0, nil},
		{"pop one", func(r *Ring[int], n int) {
			if n == 3 {
				r.Pop()
			}
		}, 2, []int{3}},
		{"pop and push", func(r *Ring[int], n int) { r.Pop(); r.Push(10 + n) }, 0, []int{11, 12, 13, 14}},
		{"push above the room", func(r *Ring[int], n int) {
			for r.Push(10 + n) {
			}
		}, 2, []int{1, 3, 11}},
		{"clear", func(r *Ring[int], n int) { r.Clear() }, 0, nil},
		{"clear and push the same", func(r *Ring[int], n int) {
			r.Clear()
			for n := range 4 {
				r.Push(n + 1)
			}
		}, 0, []int{1, 2, 3, 4}},
		{"drop", func(r *Ring[int], n int) { r.Drop(func(x int) bool { return x == n }) }, 0, nil},
		{"drop the same ones", func(r *Ring[int], n int) { r.Drop(isEven) }, 0, []int{1, 3}},
		{"drop others", func(r *Ring[int], n int) { r.Drop(func(x int) bool { return x == 3 }) }, 2, []int{1}},
	}
	for _, c := range cases {
		for skip := range 5 {
			r := round(t, 5, skip, 1, 2, 3, 4)
			asked := []int{}
			went := r.Drop(func(n int) bool {
				asked = append(asked, n)
				c.change(r, n)
				return isEven(n)
			})
			if went != c.went || !slices.Equal(asked, []int{1, 2, 3, 4}) {
				t.Fatalf("%s: Drop = %d, want %d; asked %v", c.name, went, c.went, asked)
			}
			wantRing(t, r, 5, c.remain...)
			wantPops(t, r, c.remain...)
		}
	}
}

func TestMapAndFoldByFunctionsThatChangeTheRing(t *testing.T) {
	changes := []func(r *Ring[int]){
		func(r *Ring[int]) { r.Push(9) },
		func(r *Ring[int]) { r.Pop() },
		func(r *Ring[int]) { r.Clear() },
		func(r *Ring[int]) { r.Drop(isEven) },
		func(r *Ring[int]) { r.Pop(); r.Push(9) },
	}
	for k, change := range changes {
		for skip := range 4 {
			r := round(t, 4, skip, 1, 2, 3)
			wantRing(t, Map(r, func(n int) int { change(r); return -n }), 4, -1, -2, -3)
			r = round(t, 4, skip, 1, 2, 3)
			if n := Fold(r, 0, func(u, n int) int { change(r); return 10*u + n }); n != 123 {
				t.Errorf("change %d: Fold = %d", k, n)
			}
		}
	}
}

// P5.3

// model is what a ring does, as a plain list.
type model struct {
	room   int
	things []int
}

// act does one thing with a ring and its model, told by a number, and holds
// the answers against each other. next is what is pushed.
func act(t testing.TB, r *Ring[int], m *model, what byte, next int) {
	t.Helper()
	switch what % 7 {
	case 0, 1:
		there := len(m.things) < m.room
		wantPush(t, r, next, there)
		if there {
			m.things = append(m.things, next)
		}
	case 2, 3:
		if len(m.things) == 0 {
			wantPop(t, r, 0, false)
			return
		}
		wantPop(t, r, m.things[0], true)
		m.things = m.things[1:]
	case 4:
		by := int(what)/7%3 + 2
		is := func(n int) bool { return n%by == 0 }
		before := len(m.things)
		m.things = slices.DeleteFunc(slices.Clone(m.things), is)
		if n := r.Drop(is); n != before-len(m.things) {
			t.Fatalf("Drop = %d, want %d", n, before-len(m.things))
		}
	case 5:
		if n := r.Clear(); n != len(m.things) {
			t.Fatalf("Clear = %d, want %d", n, len(m.things))
		}
		m.things = nil
	case 6:
		wantRing(t, Map(r, func(n int) int { return n }), m.room, m.things...)
		sum := 0
		for _, n := range m.things {
			sum = sum*31 + n
		}
		if n := Fold(r, 0, func(u, n int) int { return u*31 + n }); n != sum {
			t.Fatalf("Fold = %d, want %d", n, sum)
		}
	}
}

// play does all that is told and holds ring and model against each other
// behind each.
func play(t testing.TB, room int, told []byte) {
	t.Helper()
	r, m := New[int](room), &model{room: room}
	for k, what := range told {
		act(t, r, m, what, k+1)
		wantRing(t, r, room, m.things...)
		wantNoneKept(t, r)
	}
	wantPops(t, r, m.things...)
}

// All rows of six calls, on all small rooms.
func TestAllShortRows(t *testing.T) {
	whats := []byte{0, 2, 4, 5, 11}
	rows := 1
	for range 6 {
		rows *= len(whats)
	}
	for row := range rows {
		told := []byte{0, 0, 0}
		for rest := row; len(told) < 9; rest /= len(whats) {
			told = append(told, whats[rest%len(whats)])
		}
		for room := 1; room <= 4; room++ {
			play(t, room, told)
		}
	}
}

func TestLongRows(t *testing.T) {
	for _, room := range []int{1, 2, 3, 4, 5, 7, 8, 9, 16, 33, 64} {
		for seed := range uint32(8) {
			state := seed
			told := make([]byte, 3000)
			for k := range told {
				state = state*1664525 + 1013904223
				told[k] = byte(state >> 24)
				// Pushes alone for a while, then pops: it is full, and empty.
				if k/200%3 == 0 {
					told[k] = told[k] & 3 / 3 * 2
				}
				if k/200%3 == 1 {
					told[k] = 2 - told[k]&3/3*2
				}
			}
			play(t, room, told)
		}
	}
}

// One in, one out, with each number of things that stand there meanwhile: they
// go round the room many times.
func TestManyTimesRound(t *testing.T) {
	for room := 1; room <= 9; room++ {
		for stand := range room {
			r := of(t, room, numbers(0, stand)...)
			for n := range 10 * room {
				wantPush(t, r, stand+n, true)
				wantRing(t, r, room, numbers(n, stand+n+1)...)
				wantPop(t, r, n, true)
				wantRing(t, r, room, numbers(n+1, stand+n+1)...)
			}
			wantPops(t, r, numbers(10*room, 10*room+stand)...)
		}
	}
}

// Bursts of pushes and pops of different lengths: popped in order, each once,
// never more there than there is room for.
func TestBursts(t *testing.T) {
	for room := 1; room <= 8; room++ {
		for in := 1; in <= 10; in++ {
			for out := 1; out <= 10; out++ {
				r := New[int](room)
				next, popped := 0, 0
				for range 20 {
					for range in {
						is := r.Push(next)
						if is != (next-popped < room) || r.Len() > room {
							t.Fatalf("Push of %d behind %d pops: %v, %d stand there", next, popped, is, r.Len())
						}
						if is {
							next++
						}
					}
					for range out {
						x, is := r.Pop()
						if is != (popped < next) || is && x != popped {
							t.Fatalf("Pop %d = %d, %v", popped, x, is)
						}
						if is {
							popped++
						}
					}
				}
			}
		}
	}
}

// Rings are by themselves.
func TestRingsShareNothing(t *testing.T) {
	a, b := New[int](3), New[int](3)
	for n := range 3 {
		wantPush(t, a, n, true)
		wantPush(t, b, 10+n, true)
	}
	wantPop(t, a, 0, true)
	a.Drop(always)
	wantRing(t, b, 3, 10, 11, 12)
	wantRing(t, a, 3)
}

// What is popped, cleared or dropped isn't kept.
func TestNoneKept(t *testing.T) {
	x := 1
	r := round(t, 5, 3, &x, &x, &x, &x)
	r.Pop()
	wantNoneKept(t, r)
	asked := 0
	r.Drop(func(*int) bool { asked++; return asked == 2 })
	wantNoneKept(t, r)
	r.Clear()
	wantNoneKept(t, r)
}

// Room by itself takes no memory: of wide things there can be as much of it.
func TestRoomForWideThings(t *testing.T) {
	type wide [1 << 20]byte
	r := New[wide](1 << 16)
	if r == nil || r.Room() != 1<<16 {
		t.Fatal("no room")
	}
	x := new(wide)
	x[5] = 7
	if !r.Push(*x) {
		t.Fatal("Push")
	}
	if y, is := r.Pop(); !is || y != *x {
		t.Fatal("Pop")
	}
}

func FuzzRing(f *testing.F) {
	f.Add(uint16(0), []byte{0, 0, 2, 2})
	f.Add(uint16(1), []byte{0, 0, 0, 2, 0, 4, 6, 5, 0})
	f.Add(uint16(4), []byte{0, 0, 0, 2, 2, 0, 0, 0, 11, 6, 0, 18, 6, 2})
	f.Fuzz(func(t *testing.T, room uint16, told []byte) {
		play(t, int(room)+1, told[:min(len(told), 500)])
	})
}

// Calls of a ring inside the function of its own Drop.
func FuzzDropThatChanges(f *testing.F) {
	f.Add(uint8(3), []byte{0, 0, 0}, []byte{2, 0, 5})
	f.Add(uint8(5), []byte{0, 0, 2, 0, 0}, []byte{4, 0, 0, 11})
	f.Fuzz(func(t *testing.T, room uint8, told, within []byte) {
		r, m := New[int](int(room)+1), &model{room: int(room) + 1}
		next := 0
		for _, what := range told[:min(len(told), 300)] {
			next++
			act(t, r, m, what, next)
		}
		chosen := []int{}
		r.Drop(func(n int) bool {
			if len(within) > 0 {
				next++
				act(t, r, m, within[0], next)
				within = within[1:]
			}
			if n%3 == 0 {
				chosen = append(chosen, n)
			}
			return n%3 == 0
		})
		m.things = slices.DeleteFunc(slices.Clone(m.things), func(n int) bool { return slices.Contains(chosen, n) })
		wantRing(t, r, m.room, m.things...)
		wantPops(t, r, m.things...)
	})
}
