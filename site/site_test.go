package site

import (
	"math"
	"math/rand"
	"reflect"
	"slices"
	"strings"
	"testing"

	"hoistway/api"
)

// row is a row of the chapter's table: a field of api.Config, from where to
// where it may be, and where it stands in the struct.
type row struct {
	field string
	least int
	most  int
	at    int
}

// rows are the chapter's table, by its own numbers, in the order of api.Config.
func rows() []row {
	return []row{
		{"Floors", 2, 32, 0},
		{"Cars", 1, 4, 1},
		{"Seats", 1, 8, 2},
		{"Calls", 1, 64, 3},
		{"Lines", 1, 8, 4},
		{"Keys", 1, 64, 5},
		{"Window", 1, 65536, 6},
		{"Burst", 1, 1024, 7},
		{"Rate", 1, 1024, 8},
		{"Idle", 1, 65536, 9},
		{"In", 1, 16, 10},
		{"Out", 1, 16, 11},
		{"Feed", 1, 64, 12},
		{"Retries", 0, 8, 13},
		{"Life", 0, 1048576, 14},
		{"Door", 1, 4, 15},
		{"Holds", 0, 4, 16},
	}
}

func (r row) name() string { return strings.ToLower(r.field) }

// told is the field's number in c, read past the package.
func (r row) told(c api.Config) int { return int(reflect.ValueOf(c).Field(r.at).Int()) }

// put is c with n in the field, written past the package.
func (r row) put(c api.Config, n int) api.Config {
	reflect.ValueOf(&c).Elem().Field(r.at).SetInt(int64(n))
	return c
}

// made is a configuration of which each number is as choose says.
func made(choose func(r row) int) api.Config {
	c := api.Config{}
	for _, r := range rows() {
		c = r.put(c, choose(r))
	}
	return c
}

func least() api.Config { return made(func(r row) int { return r.least }) }

func most() api.Config { return made(func(r row) int { return r.most }) }

// apart has another number in each field, so that one taken for another shows.
func apart() api.Config { return made(func(r row) int { return 1000 + r.at }) }

// likely are configurations that can be.
func likely() []api.Config {
	list := []api.Config{Small(), least(), most()}
	for _, secret := range []uint32{0, 1, 7, 1 << 31, math.MaxUint32} {
		c := Small()
		c.Secret = secret
		list = append(list, c)
	}
	return list
}

// ends are numbers that no row lets be.
func ends() []int {
	return []int{-1, -2, math.MinInt, math.MinInt + 1, math.MinInt32, math.MinInt32 - 1, math.MaxInt32, math.MaxInt32 + 1, 1 << 32, 1<<32 + 1, 1<<32 + 2, math.MaxInt - 1, math.MaxInt}
}

// noNames are names of no number.
func noNames() []string {
	list := []string{"", " ", "secret", "Secret", "config", "floor", "\x00", "in,out", "in out", "0", strings.Repeat("in", 1000)}
	for _, r := range rows() {
		name := r.name()
		list = append(list, r.field, strings.ToUpper(name), name+"s", name+" ", " "+name, name+"\x00", name+name, "x"+name)
		for k := range name {
			if short := name[:k] + name[k+1:]; !slices.Contains(names(), short) {
				list = append(list, short)
			}
		}
	}
	return list
}

func names() []string {
	list := []string{}
	for _, r := range rows() {
		list = append(list, r.name())
	}
	return list
}

// canBe is the chapter's word, by the table.
func canBe(c api.Config) bool {
	return !slices.ContainsFunc(rows(), func(r row) bool { return r.told(c) < r.least || r.told(c) > r.most })
}

// wantOf holds all that can be asked of one configuration against the table and
// the chapter's words.
func wantOf(t testing.TB, c api.Config, can bool) {
	t.Helper()
	want, trip, ride, answer := api.ErrRange, 0, 0, 0
	if can {
		want = api.OK
		trip = (c.Door + c.Holds + 3) * (c.Floors + c.Floors)
		ride = (trip + trip + trip) * (1 + c.Calls)
		answer = c.Out + (12+c.Retries+c.Retries)*(1+c.In)
	}
	if err := Check(c); err != want {
		t.Fatalf("Check(%+v) = %d, want %d", c, err, want)
	}
	wantBounds(t, c, trip, ride, answer)
	wantPlaces(t, "IsFloor", c, IsFloor, c.Floors, can)
	wantPlaces(t, "IsCar", c, IsCar, c.Cars, can)
}

func wantBounds(t testing.TB, c api.Config, trip, ride, answer int) {
	t.Helper()
	if a, b, d := Trip(c), Ride(c), Answer(c); a != trip || b != ride || d != answer {
		t.Fatalf("Trip, Ride, Answer of %+v = %d, %d, %d, want %d, %d, %d", c, a, b, d, trip, ride, answer)
	}
}

// wantPlaces asks for all that can be, for what is next to it, and for the ends.
func wantPlaces(t testing.TB, what string, c api.Config, is func(api.Config, int) bool, count int, can bool) {
	t.Helper()
	list := append(ends(), count, count-1, count+1, -count)
	for n := -40; n <= 40; n++ {
		list = append(list, n)
	}
	for _, n := range list {
		if want := can && n >= 1 && n <= count; is(c, n) != want {
			t.Fatalf("%s(%+v, %d) = %v, want %v", what, c, n, !want, want)
		}
	}
}

// P7.1

func TestTableIsOfConfig(t *testing.T) {
	kind := reflect.TypeOf(api.Config{})
	if kind.NumField() != len(rows())+1 || kind.Field(len(rows())).Name != "Secret" {
		t.Fatalf("%d fields of api.Config", kind.NumField())
	}
	for k, r := range rows() {
		if kind.Field(k).Name != r.field || r.at != k {
			t.Fatalf("field %d is %s, not %s", k, kind.Field(k).Name, r.field)
		}
	}
}

func TestCheckOfWhatCanBe(t *testing.T) {
	for _, c := range likely() {
		wantOf(t, c, true)
	}
}

func TestCheckOfZero(t *testing.T) {
	wantOf(t, api.Config{}, false)
	wantOf(t, api.Config{Secret: 7}, false)
	wantOf(t, apart(), false)
}

func TestCheckAtEdges(t *testing.T) {
	for _, c := range likely() {
		for _, r := range rows() {
			for _, n := range []int{r.least, r.least + 1, (r.least + r.most) / 2, r.most - 1, r.most} {
				wantOf(t, r.put(c, n), true)
			}
			for _, n := range append(ends(), r.least-1, r.most+1, -r.most, 2*r.most+1) {
				wantOf(t, r.put(c, n), false)
			}
		}
	}
}

func TestCheckOfEachNumber(t *testing.T) {
	for _, r := range rows() {
		for n := -3; n <= min(r.most+3, 1<<16+3); n++ {
			want := api.ErrRange
			if n >= r.least && n <= r.most {
				want = api.OK
			}
			if err := Check(r.put(Small(), n)); err != want {
				t.Fatalf("Check with %s %d = %d, want %d", r.field, n, err, want)
			}
		}
	}
}

func TestCheckOfTwoNumbers(t *testing.T) {
	for _, a := range rows() {
		for _, b := range rows() {
			for _, n := range []int{a.least - 1, a.least, a.most, a.most + 1} {
				for _, m := range []int{b.least - 1, b.least, b.most, b.most + 1} {
					c := b.put(a.put(Small(), n), m)
					if can := Check(c) == api.OK; can != canBe(c) {
						t.Fatalf("Check with %s %d and %s %d", a.field, n, b.field, m)
					}
				}
			}
		}
	}
}

func TestNames(t *testing.T) {
	if list := Names(); !slices.Equal(list, names()) || len(list) != 17 {
		t.Fatalf("Names = %v, want %v", list, names())
	}
}

func TestNamesAreNew(t *testing.T) {
	list := Names()
	for k := range list {
		list[k] = "other"
	}
	_ = append(list[:0], "more")
	_ = append(list, "spare")
	if again := Names(); !slices.Equal(again, names()) {
		t.Fatalf("Names = %v behind a change", again)
	}
	if _, is := Get(Small(), "other"); is {
		t.Fatal("a name that was written into the answer counts")
	}
	wantOf(t, Small(), true)
}

func TestGet(t *testing.T) {
	for _, c := range append(likely(), apart(), api.Config{}) {
		for _, r := range rows() {
			if n, is := Get(c, r.name()); n != r.told(c) || !is {
				t.Fatalf("Get %s of %+v = %d, %v", r.name(), c, n, is)
			}
		}
	}
}

func TestGetOfAnyNumber(t *testing.T) {
	for _, r := range rows() {
		for _, n := range append(ends(), 0, 1, r.least, r.most, r.least-1, r.most+1) {
			c := r.put(apart(), n)
			for _, other := range rows() {
				if told, is := Get(c, other.name()); told != other.told(c) || !is {
					t.Fatalf("Get %s with %s %d = %d, %v", other.name(), r.field, n, told, is)
				}
			}
		}
	}
}

func TestSet(t *testing.T) {
	for _, c := range append(likely(), apart(), api.Config{}) {
		for _, r := range rows() {
			for _, n := range append(ends(), 0, 1, r.least, r.most, r.least-1, r.most+1, r.told(c)) {
				was := c
				d, is := Set(c, r.name(), n)
				if !is || d != r.put(c, n) {
					t.Fatalf("Set %s to %d of %+v = %+v, %v", r.name(), n, c, d, is)
				}
				if c != was {
					t.Fatalf("Set %s changed what it was given", r.name())
				}
				if told, is := Get(d, r.name()); told != n || !is {
					t.Fatalf("Get behind Set %s to %d = %d, %v", r.name(), n, told, is)
				}
				if can := Check(d) == api.OK; can != canBe(d) {
					t.Fatalf("Check behind Set %s to %d", r.name(), n)
				}
			}
		}
	}
}

func TestSetAll(t *testing.T) {
	c := api.Config{Secret: 9}
	for k, name := range Names() {
		next, is := Set(c, name, rows()[k].most)
		if !is {
			t.Fatalf("no %s", name)
		}
		c = next
	}
	want := most()
	want.Secret = 9
	if c != want {
		t.Fatalf("all set: %+v, want %+v", c, want)
	}
	wantOf(t, c, true)
}

func TestNoSuchName(t *testing.T) {
	for _, c := range append(likely(), apart(), api.Config{}, api.Config{Secret: 3}) {
		for _, name := range noNames() {
			if n, is := Get(c, name); n != 0 || is {
				t.Fatalf("Get %q = %d, %v", name, n, is)
			}
			for _, n := range []int{0, 1, 5, math.MinInt, math.MaxInt} {
				if d, is := Set(c, name, n); d != c || is {
					t.Fatalf("Set %q = %+v, %v", name, d, is)
				}
			}
		}
	}
}

// P7.2

func TestSmall(t *testing.T) {
	want := []int{5, 1, 2, 4, 2, 4, 20, 100, 10, 1000, 2, 4, 4, 2, 0, 1, 1}
	for _, r := range rows() {
		if n := r.told(Small()); n != want[r.at] {
			t.Fatalf("%s of the small one is %d, want %d", r.field, n, want[r.at])
		}
	}
	if Small().Secret != 7 {
		t.Fatalf("Secret of the small one is %d", Small().Secret)
	}
	if Check(Small()) != api.OK {
		t.Fatal("the small one can't be")
	}
}

// P7.3

func TestBoundsNearSmall(t *testing.T) {
	wantBounds(t, Small(), 50, 750, 52)
	for _, x := range []struct {
		name               string
		n                  int
		trip, ride, answer int
	}{
		{"floors", 2, 20, 300, 52},
		{"floors", 6, 60, 900, 52},
		{"floors", 32, 320, 4800, 52},
		{"door", 2, 60, 900, 52},
		{"door", 4, 80, 1200, 52},
		{"holds", 0, 40, 600, 52},
		{"holds", 4, 80, 1200, 52},
		{"calls", 1, 50, 300, 52},
		{"calls", 5, 50, 900, 52},
		{"calls", 64, 50, 9750, 52},
		{"in", 1, 50, 750, 36},
		{"in", 3, 50, 750, 68},
		{"in", 16, 50, 750, 276},
		{"out", 1, 50, 750, 49},
		{"out", 16, 50, 750, 64},
		{"retries", 0, 50, 750, 40},
		{"retries", 3, 50, 750, 58},
		{"retries", 8, 50, 750, 88},
		{"cars", 4, 50, 750, 52},
		{"seats", 8, 50, 750, 52},
		{"lines", 8, 50, 750, 52},
		{"keys", 64, 50, 750, 52},
		{"window", 1, 50, 750, 52},
		{"burst", 1, 50, 750, 52},
		{"rate", 1, 50, 750, 52},
		{"idle", 1, 50, 750, 52},
		{"feed", 64, 50, 750, 52},
		{"life", 1 << 20, 50, 750, 52},
	} {
		c, _ := Set(Small(), x.name, x.n)
		wantBounds(t, c, x.trip, x.ride, x.answer)
	}
}

func TestBoundsAtEnds(t *testing.T) {
	wantBounds(t, least(), 16, 96, 25)
	wantBounds(t, most(), 704, 137280, 492)
}

func TestBoundsOfWhatCantBe(t *testing.T) {
	wantBounds(t, api.Config{}, 0, 0, 0)
	for _, r := range rows() {
		for _, n := range append(ends(), r.least-1, r.most+1) {
			wantBounds(t, r.put(Small(), n), 0, 0, 0)
		}
	}
}

func TestFloorsAndCars(t *testing.T) {
	for floors := 2; floors <= 32; floors++ {
		for cars := 1; cars <= 4; cars++ {
			c := Small()
			c.Floors, c.Cars = floors, cars
			wantOf(t, c, true)
		}
	}
}

func TestNoFloorsAndCarsOfWhatCantBe(t *testing.T) {
	for _, r := range rows() {
		for _, n := range append(ends(), r.least-1, r.most+1) {
			c := r.put(Small(), n)
			if IsFloor(c, 1) || IsCar(c, 1) || IsFloor(c, 2) || IsFloor(c, n) || IsCar(c, n) {
				t.Fatalf("a floor or a car with %s %d", r.field, n)
			}
		}
	}
}

// All of a layer together

func TestConfigsByChance(t *testing.T) {
	chance := rand.New(rand.NewSource(7))
	for range 3000 {
		c := made(func(r row) int { return r.least + chance.Intn(r.most-r.least+1) })
		c.Secret = chance.Uint32()
		wantOf(t, c, true)
		for range chance.Intn(3) {
			r := rows()[chance.Intn(len(rows()))]
			c, _ = Set(c, r.name(), r.least-2+chance.Intn(r.most-r.least+5))
			wantOf(t, c, canBe(c))
		}
	}
}

func FuzzConfig(f *testing.F) {
	f.Add(uint8(0), 5, uint8(1), 1, 3, uint32(7))
	f.Add(uint8(0), 33, uint8(15), math.MaxInt, math.MinInt, uint32(0))
	f.Add(uint8(3), -1, uint8(16), 4, math.MaxInt, uint32(math.MaxUint32))
	f.Fuzz(func(t *testing.T, a uint8, n int, b uint8, m, place int, secret uint32) {
		one, other := rows()[int(a)%17], rows()[int(b)%17]
		c := Small()
		c.Secret = secret
		c, _ = Set(c, one.name(), n)
		c, _ = Set(c, other.name(), m)
		if told := other.told(c); told != m {
			t.Fatalf("%s is %d, want %d", other.field, told, m)
		}
		can := canBe(c)
		wantOf(t, c, can)
		if IsFloor(c, place) != (can && place >= 1 && place <= c.Floors) || IsCar(c, place) != (can && place >= 1 && place <= c.Cars) {
			t.Fatalf("the place %d of %+v", place, c)
		}
	})
}

func FuzzNames(f *testing.F) {
	for _, r := range rows() {
		f.Add(r.name(), r.least, uint32(r.at))
	}
	f.Add("secret", 1, uint32(2))
	f.Fuzz(func(t *testing.T, name string, n int, secret uint32) {
		c := apart()
		c.Secret = secret
		at := slices.Index(names(), name)
		d, is := Set(c, name, n)
		told, there := Get(d, name)
		if at < 0 {
			if d != c || is || there || told != 0 {
				t.Fatalf("%q: %+v, %v, %d, %v", name, d, is, told, there)
			}
			return
		}
		if d != rows()[at].put(c, n) || !is || !there || told != n {
			t.Fatalf("%q: %+v, %v, %d, %v", name, d, is, told, there)
		}
	})
}
