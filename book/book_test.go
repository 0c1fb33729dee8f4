package book

import (
	"math"
	"math/rand"
	"slices"
	"testing"

	"hoistway/api"
	"hoistway/call"
	"hoistway/site"
)

// ends are numbers that are no car, no mode, no id, no owner and no tick.
func ends() []int {
	return []int{-1, -2, math.MinInt, math.MinInt + 1, math.MinInt32, math.MinInt32 - 1, math.MaxInt32, math.MaxInt32 + 1, 1 << 32, 1<<32 + 1, 1<<32 + 2, math.MaxInt - 1, math.MaxInt}
}

// building is one with that many cars and calls, else small.
func building(cars, calls int) api.Config {
	c := site.Small()
	c.Cars, c.Calls = cars, calls
	return c
}

// buildings are some that can be.
func buildings() []api.Config {
	return []api.Config{site.Small(), building(4, 1), building(2, 2), building(4, 64), building(1, 3)}
}

// noBuildings can't be, most of them for a number that no book has to do with.
func noBuildings() []api.Config {
	list := []api.Config{{}, building(0, 4), building(5, 4), building(1, 0), building(1, 65), building(math.MaxInt, math.MaxInt), {Secret: 7}}
	for _, name := range site.Names() {
		for _, n := range []int{-1, math.MinInt, math.MaxInt} {
			c, _ := site.Set(site.Small(), name, n)
			list = append(list, c)
		}
	}
	return list
}

func up(from int) api.Call { return api.Call{Kind: api.Up, From: from} }

func down(from int) api.Call { return api.Call{Kind: api.Down, From: from} }

func inside(car, to int) api.Call { return api.Call{Kind: api.Inside, Car: car, To: to} }

func trip(from, to int) api.Call { return api.Call{Kind: api.Trip, From: from, To: to} }

// asked are calls of each kind that can be asked in all buildings here.
func asked() []api.Call {
	return []api.Call{up(1), up(4), down(2), down(5), inside(1, 1), inside(1, 5), trip(1, 5), trip(5, 1), trip(2, 3)}
}

// notAsked are calls that can't be asked in any.
func notAsked() []api.Call {
	return append(nowhere(), []api.Call{
		{Id: 1, Kind: api.Up, From: 1}, {Kind: api.Up, From: 1, State: 1}, {Kind: api.Up, From: 1, Owner: 5}, {Kind: api.Up, From: 1, Born: 1},
	}...)
}

// nowhere are calls of no kind, or with a floor or a car that can't be.
func nowhere() []api.Call {
	list := []api.Call{
		{}, up(0), up(5), down(1), down(6), inside(0, 1), inside(5, 1), inside(1, 0), inside(1, 6), trip(1, 1), trip(0, 1), trip(1, 6),
		{Kind: 5, From: 1, To: 2}, {Kind: api.Up, From: 1, Car: 1}, {Kind: api.Trip, From: 1, To: 2, Car: 1}, {Kind: api.Inside, From: 1, To: 2, Car: 1},
	}
	for _, n := range ends() {
		list = append(list, up(n), down(n), inside(n, 1), inside(1, n), trip(n, 1), trip(1, n), api.Call{Kind: n, From: 1})
	}
	return list
}

// as is x as the call with that id, of the principal 5, born at 9.
func as(x api.Call, id, state int) api.Call {
	x.Id, x.State, x.Owner, x.Born = id, state, 5, 9
	return x
}

// callsChange is a change of a call, carsChange one of a car.
func callsChange(index int, x api.Call) api.Change { return api.Change{Index: index, Call: x} }

func carsChange(index, car, mode int) api.Change {
	return api.Change{Index: index, Car: car, Mode: mode}
}

// placed is b with x asked by the principal 5 at the tick 9.
func placed(t testing.TB, b Book, x api.Call) Book {
	t.Helper()
	b, _, err := b.Place(x, 5, 9)
	if err != api.OK {
		t.Fatalf("Place of %+v = %d", x, err)
	}
	return b
}

// applied is b with the call of its id gone on to x.
func applied(t testing.TB, b Book, x api.Call) Book {
	t.Helper()
	b, err := b.Apply(callsChange(b.Index()+1, x))
	if err != api.OK {
		t.Fatalf("Apply of %+v = %d", x, err)
	}
	return b
}

// cancelled is b without the call of that id.
func cancelled(t testing.TB, b Book, id int) Book {
	t.Helper()
	b, _, err := b.Cancel(id, 5)
	if err != api.OK {
		t.Fatalf("Cancel of %d = %d", id, err)
	}
	return b
}

// at is b as if that many changes had made it.
func at(b Book, index int) Book {
	b.index = index
	return b
}

// The chapter's words, written anew

// model is a book as plain lists, that are never written to.
type model struct {
	conf  api.Config
	index int
	live  []api.Call
	done  []api.Call
	modes []int
}

func newModel(c api.Config) model {
	if site.Check(c) != api.OK {
		return model{}
	}
	m := model{conf: c}
	for range c.Cars {
		m.modes = append(m.modes, 1)
	}
	return m
}

func (m model) find(id int) (api.Call, bool) {
	for _, x := range append(slices.Clone(m.live), m.done...) {
		if x.Id == id {
			return x, true
		}
	}
	return api.Call{}, false
}

func (m model) mode(car int) int {
	for i, mode := range m.modes {
		if i+1 == car {
			return mode
		}
	}
	return 0
}

// put is m with a change that can be.
func (m model) put(x api.Change) model {
	m.index++
	if x.Car > 0 {
		m.modes = slices.Clone(m.modes)
		m.modes[x.Car-1] = x.Mode
		return m
	}
	live := []api.Call{}
	for _, y := range m.live {
		if y.Id != x.Call.Id {
			live = append(live, y)
		}
	}
	if x.Call.State <= api.Riding {
		live = append(live, x.Call)
		slices.SortFunc(live, func(y, z api.Call) int { return y.Id - z.Id })
	} else {
		m.done = append(slices.Clone(m.done), x.Call)
		m.done = m.done[max(0, len(m.done)-m.conf.Calls):]
	}
	m.live = live
	return m
}

// answer is what each of the deeds answers.
func (m model) answer(x api.Change, err api.Errno) (model, api.Change, api.Errno) {
	if err != api.OK {
		return model{}, api.Change{}, err
	}
	return m.put(x), x, api.OK
}

func (m model) place(x api.Call, owner, now int) (model, api.Change, api.Errno) {
	made, err := call.New(m.conf, x, m.index+1, owner, now)
	if err == api.OK && (len(m.live) == m.conf.Calls || m.index == 1<<30) {
		err = api.ErrFull
	}
	return m.answer(callsChange(m.index+1, made), err)
}

func (m model) cancel(id, owner int) (model, api.Change, api.Errno) {
	x, is := m.find(id)
	err := api.OK
	switch {
	case m.conf.Floors == 0:
		err = api.ErrRange
	case !is:
		err = api.ErrNone
	case x.Owner != owner:
		err = api.ErrOwner
	case x.State != api.Pending && x.State != api.Assigned:
		err = api.ErrState
	case m.index == 1<<30:
		err = api.ErrFull
	}
	x.State = api.Cancelled
	return m.answer(callsChange(m.index+1, x), err)
}

func (m model) set(car, mode int) (model, api.Change, api.Errno) {
	err := api.OK
	switch {
	case m.conf.Floors == 0:
		err = api.ErrRange
	case m.mode(car) == 0 || mode != 1 && mode != 2:
		err = api.ErrArg
	case m.index == 1<<30:
		err = api.ErrFull
	}
	return m.answer(carsChange(m.index+1, car, mode), err)
}

func (m model) apply(x api.Change) (model, api.Errno) {
	isCars := x.Call == api.Call{} && m.mode(x.Car) != 0 && (x.Mode == 1 || x.Mode == 2)
	isCalls := x.Car == 0 && x.Mode == 0
	y := x.Call
	made, err := call.New(m.conf, api.Call{Kind: y.Kind, From: y.From, To: y.To, Car: y.Car}, x.Index, y.Owner, y.Born)
	isNew := isCalls && y.State == api.Pending && y.Id == x.Index && err == api.OK && made == y
	goesOn := slices.ContainsFunc(m.live, func(z api.Call) bool { return isCalls && z.Id == y.Id && call.May(m.conf, z, y) })
	switch {
	case m.conf.Floors == 0:
		return model{}, api.ErrRange
	case x.Index != m.index+1 || !isCars && !isNew && !goesOn:
		return model{}, api.ErrArg
	case isNew && len(m.live) == m.conf.Calls || m.index == 1<<30:
		return model{}, api.ErrFull
	}
	return m.put(x), api.OK
}

// want holds all that a book tells against a model.
func want(t testing.TB, b Book, m model) {
	t.Helper()
	if b.Conf() != m.conf || b.Index() != m.index {
		t.Fatalf("book of %+v, %d, want %+v, %d", b.Conf(), b.Index(), m.conf, m.index)
	}
	if live := b.Live(); !slices.Equal(live, m.live) {
		t.Fatalf("Live() = %+v, want %+v", live, m.live)
	}
	if done := b.Done(); !slices.Equal(done, m.done) {
		t.Fatalf("Done() = %+v, want %+v", done, m.done)
	}
	for car := -1; car <= 6; car++ {
		if mode := b.Mode(car); mode != m.mode(car) {
			t.Fatalf("Mode(%d) = %d, want %d", car, mode, m.mode(car))
		}
	}
	for _, y := range slices.Concat(m.live, m.done) {
		if x, is := b.Find(y.Id); !is || x != y {
			t.Fatalf("Find(%d) = %+v, %t, want %+v", y.Id, x, is, y)
		}
	}
	for _, id := range []int{-1, 0, m.index + 1} {
		if x, is := b.Find(id); is || x != (api.Call{}) {
			t.Fatalf("Find(%d) = %+v, %t", id, x, is)
		}
	}
}

// wantZero is the zero book.
func wantZero(t testing.TB, b Book) {
	t.Helper()
	want(t, b, model{})
	if !Same(b, Book{}) {
		t.Fatal("not the same as the zero book")
	}
}

// wantDeed is what a deed is to answer, a change beside a book, or an error beside zero ones.
func wantDeed(t testing.TB, what string, b Book, x api.Change, err api.Errno, m model, wanted api.Change, wantedErr api.Errno) {
	t.Helper()
	if x != wanted || err != wantedErr {
		t.Fatalf("%s = %+v, %d, want %+v, %d", what, x, err, wanted, wantedErr)
	}
	want(t, b, m)
	if err != api.OK {
		wantZero(t, b)
	}
}

// refused is the error alone.
func refused(t testing.TB, what string, b Book, x api.Change, err api.Errno, wantedErr api.Errno) {
	t.Helper()
	wantDeed(t, what, b, x, err, model{}, api.Change{}, wantedErr)
}

func refusedPlace(t testing.TB, b Book, x api.Call, owner, now int, wantedErr api.Errno) {
	t.Helper()
	next, change, err := b.Place(x, owner, now)
	refused(t, "Place", next, change, err, wantedErr)
}

func refusedCancel(t testing.TB, b Book, id, owner int, wantedErr api.Errno) {
	t.Helper()
	next, change, err := b.Cancel(id, owner)
	refused(t, "Cancel", next, change, err, wantedErr)
}

func refusedSet(t testing.TB, b Book, car, mode int, wantedErr api.Errno) {
	t.Helper()
	next, change, err := b.Set(car, mode)
	refused(t, "Set", next, change, err, wantedErr)
}

func refusedApply(t testing.TB, b Book, x api.Change, wantedErr api.Errno) {
	t.Helper()
	next, err := b.Apply(x)
	if err != wantedErr {
		t.Fatalf("Apply(%+v) = %d, want %d", x, err, wantedErr)
	}
	wantZero(t, next)
}

// wantCalls holds the ids and states of a list against those wanted.
func wantCalls(t testing.TB, what string, list []api.Call, idsAndStates ...int) {
	t.Helper()
	got := []int{}
	for _, x := range list {
		got = append(got, x.Id, x.State)
	}
	if !slices.Equal(got, idsAndStates) {
		t.Fatalf("%s = %v, want %v", what, got, idsAndStates)
	}
}

// P9.1

func TestNew(t *testing.T) {
	for _, c := range buildings() {
		b := New(c)
		want(t, b, model{conf: c, modes: []int{1, 1, 1, 1}[:c.Cars]})
		if Same(b, Book{}) {
			t.Fatal("a new book is the zero one")
		}
	}
}

func TestNewOfWhatCantBe(t *testing.T) {
	for _, c := range noBuildings() {
		wantZero(t, New(c))
	}
}

func TestZeroBook(t *testing.T) {
	for _, b := range []Book{{}, New(api.Config{}), New(building(5, 4))} {
		wantZero(t, b)
		for _, n := range append(ends(), 0, 1, 2, 3, 4, 5) {
			if mode := b.Mode(n); mode != 0 {
				t.Fatalf("Mode(%d) = %d", n, mode)
			}
			if x, is := b.Find(n); is || x != (api.Call{}) {
				t.Fatalf("Find(%d) = %+v, %t", n, x, is)
			}
			refusedPlace(t, b, up(1), n, n, api.ErrRange)
			refusedPlace(t, b, api.Call{Kind: n}, 1, 1, api.ErrRange)
			refusedCancel(t, b, n, 1, api.ErrRange)
			refusedCancel(t, b, 1, n, api.ErrRange)
			refusedSet(t, b, n, 1, api.ErrRange)
			refusedSet(t, b, 1, n, api.ErrRange)
			refusedApply(t, b, carsChange(n, 1, 1), api.ErrRange)
			refusedApply(t, b, callsChange(n, as(up(1), n, 1)), api.ErrRange)
		}
		refusedApply(t, b, api.Change{}, api.ErrRange)
	}
}

func TestFind(t *testing.T) {
	b := New(building(1, 2))
	for range 4 {
		b = placed(t, b, up(1))
		b = cancelled(t, b, b.Index())
	}
	b = placed(t, b, down(3))
	// The ids 1 and 3 ended long ago, 5 and 7 lately, and 9 lives.
	for _, id := range append(ends(), 0, 1, 2, 3, 4, 6, 8, 10, 1<<30) {
		if x, is := b.Find(id); is || x != (api.Call{}) {
			t.Fatalf("Find(%d) = %+v, %t", id, x, is)
		}
	}
	for id, wanted := range map[int]api.Call{5: as(up(1), 5, api.Cancelled), 7: as(up(1), 7, api.Cancelled), 9: as(down(3), 9, api.Pending)} {
		if x, is := b.Find(id); !is || x != wanted {
			t.Fatalf("Find(%d) = %+v, %t, want %+v", id, x, is, wanted)
		}
	}
}

func TestMode(t *testing.T) {
	for cars := 1; cars <= 4; cars++ {
		b := New(building(cars, 4))
		for car := 1; car <= 4; car++ {
			wanted := 0
			if car <= cars {
				wanted = api.InService
			}
			if mode := b.Mode(car); mode != wanted {
				t.Fatalf("Mode(%d) of %d cars = %d, want %d", car, cars, mode, wanted)
			}
		}
		for _, car := range append(ends(), 0, cars+1, 5, 6) {
			if mode := b.Mode(car); mode != 0 {
				t.Fatalf("Mode(%d) of %d cars = %d", car, cars, mode)
			}
		}
	}
}

func TestListsAreNewMemory(t *testing.T) {
	b := New(building(1, 4))
	m := newModel(b.Conf())
	for i := range 6 {
		var change api.Change
		b, change, _ = b.Place(trip(1, 2+i%3), 5, i)
		m = m.put(change)
		if i < 3 {
			b, change, _ = b.Cancel(b.Index(), 5)
			m = m.put(change)
		}
	}
	if len(b.Live()) != 3 || len(b.Done()) != 3 {
		t.Fatalf("%d live, %d ended", len(b.Live()), len(b.Done()))
	}
	for _, list := range [][]api.Call{b.Live(), b.Done()} {
		list = list[:cap(list)]
		for i := range list {
			list[i] = api.Call{Id: -1}
		}
	}
	want(t, b, m)
}

// P9.2: Place

func TestPlace(t *testing.T) {
	for _, c := range buildings() {
		for _, x := range asked() {
			b := New(c)
			next, change, err := b.Place(x, 5, 9)
			made := as(x, 1, api.Pending)
			m := newModel(c)
			m.index, m.live = 1, []api.Call{made}
			wantDeed(t, "Place", next, change, err, m, callsChange(1, made), api.OK)
			want(t, b, newModel(c))
		}
	}
}

func TestPlaceHasTheIdOfItsIndex(t *testing.T) {
	b := New(building(4, 64))
	b, _, _ = b.Set(2, api.OutService)
	b = placed(t, b, inside(4, 2))
	b = applied(t, b, as(inside(4, 2), 2, api.Assigned))
	b, change, err := b.Place(down(3), 6, 0)
	wanted := api.Call{Id: 4, Kind: api.Down, From: 3, State: api.Pending, Owner: 6}
	if err != api.OK || change != callsChange(4, wanted) {
		t.Fatalf("Place = %+v, %d", change, err)
	}
	wantCalls(t, "Live()", b.Live(), 2, api.Assigned, 4, api.Pending)
}

func TestPlaceOfOwnersAndTicks(t *testing.T) {
	b := New(site.Small())
	for _, n := range append(ends(), 1<<30+1) {
		refusedPlace(t, b, up(1), n, 9, api.ErrArg)
		refusedPlace(t, b, up(1), 5, n, api.ErrArg)
	}
	refusedPlace(t, b, up(1), 0, 9, api.ErrArg)
	for _, owner := range []int{1, 2, 1 << 30} {
		for _, now := range []int{0, 1, 1 << 30} {
			_, change, err := b.Place(up(1), owner, now)
			if err != api.OK || change.Call.Owner != owner || change.Call.Born != now {
				t.Fatalf("Place by %d at %d = %+v, %d", owner, now, change, err)
			}
		}
	}
}

func TestPlaceOfWhatCantBeAsked(t *testing.T) {
	b := New(building(4, 4))
	for _, x := range notAsked() {
		refusedPlace(t, b, x, 5, 9, api.ErrArg)
	}
	refusedPlace(t, New(building(3, 4)), inside(4, 1), 5, 9, api.ErrArg)
	want(t, b, newModel(b.Conf()))
}

func TestPlaceTillFull(t *testing.T) {
	for _, c := range buildings() {
		b := New(c)
		for i := range c.Calls {
			b = placed(t, b, asked()[i%len(asked())])
		}
		for _, x := range asked() {
			refusedPlace(t, b, x, 5, 9, api.ErrFull)
		}
		if len(b.Live()) != c.Calls || b.Index() != c.Calls {
			t.Fatalf("%d live at %d", len(b.Live()), b.Index())
		}
		// What can't be asked is told ahead of that there is no room.
		for _, x := range notAsked() {
			refusedPlace(t, b, x, 5, 9, api.ErrArg)
		}
		refusedPlace(t, b, up(1), 0, 9, api.ErrArg)
		refusedPlace(t, b, up(1), 5, -1, api.ErrArg)
		b = placed(t, cancelled(t, b, 1), up(1))
		refusedPlace(t, b, up(1), 5, 9, api.ErrFull)
	}
}

func TestPlaceAtTheLastIndex(t *testing.T) {
	b := at(New(site.Small()), 1<<30-1)
	b, change, err := b.Place(up(1), 5, 9)
	if err != api.OK || change != callsChange(1<<30, as(up(1), 1<<30, api.Pending)) || b.Index() != 1<<30 {
		t.Fatalf("Place = %+v, %d", change, err)
	}
	// The id that comes next is none of layer 8's, and New's error is ahead.
	refusedPlace(t, b, up(1), 5, 9, api.ErrArg)
	refusedPlace(t, b, up(0), 5, 9, api.ErrArg)
}

// P9.2: Cancel

func TestCancel(t *testing.T) {
	for _, x := range asked() {
		b := placed(t, New(building(4, 4)), x)
		want := as(x, 1, api.Cancelled)
		next, change, err := b.Cancel(1, 5)
		m := newModel(b.Conf())
		m.index, m.done = 2, []api.Call{want}
		wantDeed(t, "Cancel", next, change, err, m, callsChange(2, want), api.OK)
		wantCalls(t, "Live() of the older one", b.Live(), 1, api.Pending)
		wantCalls(t, "Done() of the older one", b.Done())
	}
}

func TestCancelOfAssigned(t *testing.T) {
	b := placed(t, New(building(4, 4)), trip(2, 4))
	x := as(trip(2, 4), 1, api.Assigned)
	x.Car = 3
	b = applied(t, b, x)
	b, change, err := b.Cancel(1, 5)
	x.State = api.Cancelled
	m := newModel(b.Conf())
	m.index, m.done = 3, []api.Call{x}
	wantDeed(t, "Cancel", b, change, err, m, callsChange(3, x), api.OK)
}

func TestCancelOfNone(t *testing.T) {
	b := New(building(1, 1))
	refusedCancel(t, b, 1, 5, api.ErrNone)
	b = placed(t, b, up(1))
	for _, id := range append(ends(), 0, 2, 1<<30) {
		refusedCancel(t, b, id, 5, api.ErrNone)
		refusedCancel(t, b, id, 0, api.ErrNone)
	}
	b = cancelled(t, b, 1)
	b = placed(t, b, up(1))
	refusedCancel(t, b, 1, 5, api.ErrState)
	b = cancelled(t, b, 3)
	refusedCancel(t, b, 1, 5, api.ErrNone)
	refusedCancel(t, b, 1, 6, api.ErrNone)
	refusedCancel(t, b, 3, 5, api.ErrState)
}

func TestCancelByAnotherOne(t *testing.T) {
	b := placed(t, New(site.Small()), trip(2, 4))
	ended := cancelled(t, b, 1)
	for _, owner := range append(ends(), 0, 1, 4, 6, 1<<30) {
		refusedCancel(t, b, 1, owner, api.ErrOwner)
		// That it is another one's is told ahead of that it ended.
		refusedCancel(t, ended, 1, owner, api.ErrOwner)
	}
	wantCalls(t, "Live()", b.Live(), 1, api.Pending)
}

// ridden is a book of the small building whose call 1 rides.
func ridden(t testing.TB) Book {
	t.Helper()
	x := trip(2, 4)
	b := placed(t, New(site.Small()), x)
	x.Car = 1
	b = applied(t, b, as(x, 1, api.Assigned))
	return applied(t, b, as(x, 1, api.Riding))
}

func TestCancelOfWhatRidesOrEnded(t *testing.T) {
	b := ridden(t)
	refusedCancel(t, b, 1, 5, api.ErrState)
	refusedCancel(t, b, 1, 6, api.ErrOwner)
	served := trip(2, 4)
	served.Car = 1
	refusedCancel(t, applied(t, b, as(served, 1, api.Served)), 1, 5, api.ErrState)
	p := placed(t, New(site.Small()), up(1))
	refusedCancel(t, applied(t, p, as(up(1), 1, api.Expired)), 1, 5, api.ErrState)
	refusedCancel(t, cancelled(t, p, 1), 1, 5, api.ErrState)
}

func TestCancelAtTheLastIndex(t *testing.T) {
	b := placed(t, placed(t, New(site.Small()), up(1)), up(2))
	b = cancelled(t, at(b, 1<<30-1), 1)
	if b.Index() != 1<<30 {
		t.Fatal(b.Index())
	}
	refusedCancel(t, b, 2, 5, api.ErrFull)
	refusedCancel(t, b, 3, 5, api.ErrNone)
	refusedCancel(t, b, 2, 6, api.ErrOwner)
	refusedCancel(t, b, 1, 5, api.ErrState)
	refusedCancel(t, at(ridden(t), 1<<30), 1, 5, api.ErrState)
}

// P9.2: Set

func TestSet(t *testing.T) {
	for cars := 1; cars <= 4; cars++ {
		for car := 1; car <= cars; car++ {
			b := New(building(cars, 4))
			m := newModel(b.Conf())
			// Out, out again, back, and back again: each is a change.
			for i, mode := range []int{2, 2, 1, 1} {
				older := b
				next, change, err := b.Set(car, mode)
				want(t, older, m)
				m = m.put(carsChange(i+1, car, mode))
				wantDeed(t, "Set", next, change, err, m, carsChange(i+1, car, mode), api.OK)
				b = next
			}
		}
	}
}

func TestSetOfNone(t *testing.T) {
	for cars := 1; cars <= 4; cars++ {
		b := New(building(cars, 4))
		for _, n := range append(ends(), 0) {
			refusedSet(t, b, n, 1, api.ErrArg)
			refusedSet(t, b, n, 2, api.ErrArg)
			refusedSet(t, b, 1, n, api.ErrArg)
			refusedSet(t, b, n, n, api.ErrArg)
		}
		refusedSet(t, b, cars+1, 1, api.ErrArg)
		refusedSet(t, b, cars+1, 2, api.ErrArg)
		refusedSet(t, b, 1, 3, api.ErrArg)
		refusedSet(t, b, cars, 3, api.ErrArg)
		want(t, b, newModel(b.Conf()))
	}
}

func TestSetAtTheLastIndex(t *testing.T) {
	b := at(New(building(4, 4)), 1<<30-1)
	b, change, err := b.Set(4, 2)
	if err != api.OK || change != carsChange(1<<30, 4, 2) || b.Index() != 1<<30 || b.Mode(4) != 2 {
		t.Fatalf("Set = %+v, %d", change, err)
	}
	refusedSet(t, b, 4, 1, api.ErrFull)
	refusedSet(t, b, 4, 2, api.ErrFull)
	refusedSet(t, b, 5, 1, api.ErrArg)
	refusedSet(t, b, 1, 0, api.ErrArg)
	refusedSet(t, b, 1, 3, api.ErrArg)
}

// Those that ended

func TestDoneIsTheLastOnes(t *testing.T) {
	for _, calls := range []int{1, 2, 4, 64} {
		b := New(building(1, calls))
		ended := []int{}
		for i := range 2*calls + 3 {
			b = placed(t, b, trip(1+i%4, 5))
			id := b.Index()
			b = cancelled(t, b, id)
			ended = append(ended, id, api.Cancelled)
			wantCalls(t, "Done()", b.Done(), ended[2*max(0, i+1-calls):]...)
		}
		wantCalls(t, "Live()", b.Live())
	}
}

func TestDoneIsInTheOrderInWhichTheyEnded(t *testing.T) {
	b := New(building(1, 4))
	for range 4 {
		b = placed(t, b, up(1))
	}
	b = applied(t, b, as(up(1), 3, api.Expired))
	b = cancelled(t, b, 1)
	b = cancelled(t, b, 4)
	wantCalls(t, "Done()", b.Done(), 3, api.Expired, 1, api.Cancelled, 4, api.Cancelled)
	b = cancelled(t, b, 2)
	b = placed(t, b, up(1))
	wantCalls(t, "Done()", b.Done(), 3, api.Expired, 1, api.Cancelled, 4, api.Cancelled, 2, api.Cancelled)
	b = cancelled(t, b, 9)
	wantCalls(t, "Done()", b.Done(), 1, api.Cancelled, 4, api.Cancelled, 2, api.Cancelled, 9, api.Cancelled)
}

// P9.3

func TestApplyOfCars(t *testing.T) {
	b := New(building(2, 4))
	for car := -1; car <= 4; car++ {
		for mode := -1; mode <= 3; mode++ {
			for index := -1; index <= 3; index++ {
				x := carsChange(index, car, mode)
				if index != 1 || car < 1 || car > 2 || mode < 1 || mode > 2 {
					refusedApply(t, b, x, api.ErrArg)
					continue
				}
				next, err := b.Apply(x)
				wantDeed(t, "Apply", next, x, err, newModel(b.Conf()).put(x), x, api.OK)
			}
		}
	}
	for _, n := range ends() {
		refusedApply(t, b, carsChange(n, 1, 1), api.ErrArg)
		refusedApply(t, b, carsChange(1, n, 1), api.ErrArg)
		refusedApply(t, b, carsChange(1, 1, n), api.ErrArg)
	}
	want(t, b, newModel(b.Conf()))
}

func TestApplyOfNewCalls(t *testing.T) {
	for _, c := range buildings() {
		b := New(c)
		for _, y := range asked() {
			x := callsChange(1, as(y, 1, api.Pending))
			next, err := b.Apply(x)
			wantDeed(t, "Apply", next, x, err, newModel(c).put(x), x, api.OK)
		}
		for _, y := range nowhere() {
			refusedApply(t, b, callsChange(1, as(y, 1, api.Pending)), api.ErrArg)
		}
		want(t, b, newModel(c))
	}
}

func TestApplyOfBoth(t *testing.T) {
	b := placed(t, New(building(4, 4)), up(1))
	lives := as(up(1), 1, api.Cancelled)
	fresh := as(down(3), 2, api.Pending)
	for _, y := range []api.Call{lives, fresh} {
		for _, car := range append(ends(), 0, 1, 4, 5) {
			for _, mode := range append(ends(), 0, 1, 2, 3) {
				if car != 0 || mode != 0 {
					refusedApply(t, b, api.Change{Index: 2, Call: y, Car: car, Mode: mode}, api.ErrArg)
				}
			}
		}
		if _, err := b.Apply(callsChange(2, y)); err != api.OK {
			t.Fatal(err)
		}
	}
	// A call of which something is there is one, be it ever so little.
	for _, y := range []api.Call{{Id: 1}, {Kind: 1}, {From: 1}, {To: 1}, {Car: 1}, {State: 1}, {Owner: 1}, {Born: 1}} {
		refusedApply(t, b, api.Change{Index: 2, Call: y, Car: 1, Mode: 1}, api.ErrArg)
		refusedApply(t, b, callsChange(2, y), api.ErrArg)
	}
}

func TestApplyOfNeither(t *testing.T) {
	b := placed(t, New(building(4, 4)), up(1))
	for index := -1; index <= 4; index++ {
		refusedApply(t, b, api.Change{Index: index}, api.ErrArg)
		refusedApply(t, b, api.Change{Index: index, Mode: 1}, api.ErrArg)
		refusedApply(t, b, api.Change{Index: index, Car: 1}, api.ErrArg)
	}
}

func TestApplyOfAnotherIndex(t *testing.T) {
	b := placed(t, placed(t, New(building(4, 4)), up(1)), down(2))
	for _, index := range append(ends(), 0, 1, 2, 4, 1<<30, 1<<30+1) {
		refusedApply(t, b, callsChange(index, as(up(2), 3, api.Pending)), api.ErrArg)
		refusedApply(t, b, callsChange(index, as(up(2), index, api.Pending)), api.ErrArg)
		refusedApply(t, b, callsChange(index, as(up(1), 1, api.Cancelled)), api.ErrArg)
		refusedApply(t, b, carsChange(index, 1, 2), api.ErrArg)
	}
}

func TestApplyOfNewCallsThatWereNotMadeSo(t *testing.T) {
	b := placed(t, New(building(4, 4)), up(1))
	fresh := as(down(3), 2, api.Pending)
	if _, err := b.Apply(callsChange(2, fresh)); err != api.OK {
		t.Fatal(err)
	}
	for _, n := range append(ends(), 0, 1, 3, 1<<30+1) {
		x := fresh
		x.Id = n
		refusedApply(t, b, callsChange(2, x), api.ErrArg)
	}
	for _, n := range append(ends(), 0, 2, 3, 4, 5, 6, 7) {
		x := fresh
		x.State = n
		refusedApply(t, b, callsChange(2, x), api.ErrArg)
	}
	for _, n := range append(ends(), 1<<30+1) {
		x, y := fresh, fresh
		x.Owner, y.Born = n, n
		refusedApply(t, b, callsChange(2, x), api.ErrArg)
		refusedApply(t, b, callsChange(2, y), api.ErrArg)
	}
	x := fresh
	x.Owner = 0
	refusedApply(t, b, callsChange(2, x), api.ErrArg)
	for _, n := range []int{0, 1, 1 << 30} {
		x := fresh
		x.Owner, x.Born = max(1, n), n
		if _, err := b.Apply(callsChange(2, x)); err != api.OK {
			t.Fatalf("Apply of %+v = %d", x, err)
		}
	}
	for _, car := range []int{1, 4} {
		x := fresh
		x.Car = car
		refusedApply(t, b, callsChange(2, x), api.ErrArg)
	}
}

// gone is a call in a state, with a car if it is Assigned, Riding or Served.
func gone(x api.Call, state int) api.Call {
	x = as(x, 1, state)
	if x.Kind != api.Inside && (state == api.Assigned || state == api.Riding || state == api.Served) {
		x.Car = 2
	}
	return x
}

// rows are ways of a call from new on, by the states that it has.
func rows(x api.Call) [][]int {
	list := [][]int{{2}, {6}, {5}, {2, 1}, {2, 5}, {2, 1, 2}, {2, 1, 6}}
	if x.Kind != api.Trip {
		return append(list, []int{2, 4}, []int{2, 1, 2, 4})
	}
	return append(list, []int{2, 3}, []int{2, 3, 4}, []int{2, 3, 1}, []int{2, 3, 1, 2, 3, 4})
}

func TestApplyByEachRow(t *testing.T) {
	for _, x := range []api.Call{up(1), down(5), inside(3, 4), trip(2, 4)} {
		for _, row := range rows(x) {
			b := placed(t, New(building(4, 4)), x)
			m := newModel(b.Conf()).put(callsChange(1, as(x, 1, api.Pending)))
			was := as(x, 1, api.Pending)
			for i, state := range row {
				older, olderModel := b, m
				is := gone(x, state)
				if state == api.Cancelled {
					is.Car = was.Car
				}
				was = is
				y := callsChange(i+2, is)
				next, err := b.Apply(y)
				m = m.put(y)
				wantDeed(t, "Apply", next, y, err, m, y, api.OK)
				want(t, older, olderModel)
				b = next
			}
		}
	}
}

func TestApplyOfARideThatIsLeft(t *testing.T) {
	b := ridden(t)
	for from := -1; from <= 7; from++ {
		x := callsChange(4, as(trip(from, 4), 1, api.Pending))
		if from < 1 || from > 5 || from == 4 {
			refusedApply(t, b, x, api.ErrArg)
			continue
		}
		next, err := b.Apply(x)
		if err != api.OK || !slices.Equal(next.Live(), []api.Call{x.Call}) {
			t.Fatalf("Apply of %+v = %d", x, err)
		}
	}
}

func TestApplyByNoRow(t *testing.T) {
	for _, x := range []api.Call{up(1), down(5), inside(3, 4), trip(2, 4)} {
		b := placed(t, New(building(4, 4)), x)
		for _, way := range [][]int{{}, {2}, {2, 3}} {
			if len(way) == 2 && x.Kind != api.Trip {
				continue
			}
			b := b
			now := as(x, 1, api.Pending)
			for _, state := range way {
				now = gone(x, state)
				b = applied(t, b, now)
			}
			index := b.Index() + 1
			refusedApply(t, b, callsChange(index, now), api.ErrArg)
			for _, state := range append(ends(), 0, 1, 2, 3, 4, 5, 6, 7) {
				y := gone(x, state)
				if !call.May(b.Conf(), now, y) {
					refusedApply(t, b, callsChange(index, y), api.ErrArg)
				}
				// Not the call of that id, nor anybody else's, nor another one.
				for _, z := range []api.Call{{Id: 2}, {Owner: 1}, {Born: 1}, {To: 1}, {Kind: 1}} {
					z.Id, z.Kind, z.From, z.To, z.Car = z.Id+y.Id, z.Kind+y.Kind, y.From, z.To+y.To, y.Car
					z.State, z.Owner, z.Born = y.State, z.Owner+y.Owner, z.Born+y.Born
					if z.Id != index {
						refusedApply(t, b, callsChange(index, z), api.ErrArg)
					}
				}
			}
		}
	}
}

func TestApplyOfWhatEnded(t *testing.T) {
	b := New(building(4, 4))
	for _, state := range []int{api.Served, api.Cancelled, api.Expired} {
		b := placed(t, b, up(1))
		if state == api.Served {
			b = applied(t, b, gone(up(1), api.Assigned))
		}
		b = applied(t, b, gone(up(1), state))
		for _, next := range append(ends(), 0, 1, 2, 3, 4, 5, 6, 7) {
			refusedApply(t, b, callsChange(b.Index()+1, gone(up(1), next)), api.ErrArg)
		}
		wantCalls(t, "Live()", b.Live())
		wantCalls(t, "Done()", b.Done(), 1, state)
	}
}

func TestApplyTillFull(t *testing.T) {
	for _, c := range buildings() {
		b := New(c)
		for i := range c.Calls {
			b = applied(t, b, as(up(1), i+1, api.Pending))
		}
		n := b.Index() + 1
		refusedApply(t, b, callsChange(n, as(up(1), n, api.Pending)), api.ErrFull)
		// What is wrong is told ahead of that there is no room.
		refusedApply(t, b, callsChange(n, as(up(5), n, api.Pending)), api.ErrArg)
		refusedApply(t, b, callsChange(n, as(up(1), n+1, api.Pending)), api.ErrArg)
		refusedApply(t, b, callsChange(n+1, as(up(1), n+1, api.Pending)), api.ErrArg)
		// Those that live go on, and cars may be set.
		if _, err := b.Apply(carsChange(n, 1, 2)); err != api.OK {
			t.Fatal(err)
		}
		x := as(up(1), 1, api.Assigned)
		x.Car = 1
		b = applied(t, b, x)
		b = applied(t, b, as(up(1), 1, api.Pending))
		b = applied(t, b, as(up(1), c.Calls, api.Expired))
		n = b.Index() + 1
		b = applied(t, b, as(up(1), n, api.Pending))
		refusedApply(t, b, callsChange(n+1, as(up(1), n+1, api.Pending)), api.ErrFull)
	}
}

func TestApplyAtTheLastIndex(t *testing.T) {
	b := placed(t, New(site.Small()), up(1))
	last := at(b, 1<<30-1)
	for _, x := range []api.Change{carsChange(1<<30, 1, 2), callsChange(1<<30, as(up(1), 1, api.Cancelled)), callsChange(1<<30, as(up(1), 1<<30, api.Pending))} {
		next, err := last.Apply(x)
		if err != api.OK || next.Index() != 1<<30 {
			t.Fatalf("Apply(%+v) = %d", x, err)
		}
		refusedApply(t, at(b, 1<<30), x, api.ErrArg)
	}
	over := at(b, 1<<30)
	refusedApply(t, over, carsChange(1<<30+1, 1, 2), api.ErrFull)
	refusedApply(t, over, callsChange(1<<30+1, as(up(1), 1, api.Cancelled)), api.ErrFull)
	refusedApply(t, over, carsChange(1<<30+1, 2, 2), api.ErrArg)
	refusedApply(t, over, callsChange(1<<30+1, as(up(1), 1, api.Served)), api.ErrArg)
	// New of layer 8 makes no call with that id.
	refusedApply(t, over, callsChange(1<<30+1, as(up(1), 1<<30+1, api.Pending)), api.ErrArg)
}

// P9.4

// wantSame holds Same both ways.
func wantSame(t testing.TB, a, b Book, wanted bool) {
	t.Helper()
	if Same(a, b) != wanted || Same(b, a) != wanted || !Same(a, a) || !Same(b, b) {
		t.Fatalf("Same is %t, want %t", Same(a, b), wanted)
	}
}

func TestSameOfConfigurations(t *testing.T) {
	a := New(site.Small())
	wantSame(t, a, New(site.Small()), true)
	wantSame(t, Book{}, New(api.Config{}), true)
	wantSame(t, Book{}, a, false)
	for _, name := range site.Names() {
		n, _ := site.Get(site.Small(), name)
		for _, m := range []int{n - 1, n + 1} {
			c, _ := site.Set(site.Small(), name, m)
			wantSame(t, a, New(c), false)
		}
	}
	c := site.Small()
	c.Secret++
	wantSame(t, a, New(c), false)
}

func TestSameOfIndices(t *testing.T) {
	a := New(site.Small())
	b, _, _ := a.Set(1, 1)
	wantSame(t, a, b, false)
	wantSame(t, b, at(a, 1), true)
}

func TestSameOfCalls(t *testing.T) {
	none := New(building(4, 4))
	list := []Book{at(none, 1)}
	for _, x := range asked() {
		list = append(list, placed(t, none, x))
	}
	for _, of := range [][2]int{{5, 8}, {6, 9}} {
		b, _, _ := none.Place(up(1), of[0], of[1])
		list = append(list, b)
	}
	for i, a := range list {
		for j, b := range list {
			wantSame(t, a, b, i == j)
			// So of those that ended.
			a, _, _ := a.Cancel(1, a.owner())
			b, _, _ := b.Cancel(1, b.owner())
			wantSame(t, a, b, i == j)
		}
	}
}

// owner is who owns the call 1; 0: nobody.
func (b Book) owner() int {
	x, _ := b.Find(1)
	return x.Owner
}

func TestSameOfStates(t *testing.T) {
	b := placed(t, New(building(4, 4)), up(1))
	list := []Book{at(b, 2), cancelled(t, b, 1), applied(t, b, as(up(1), 1, api.Expired))}
	for car := 1; car <= 4; car++ {
		x := as(up(1), 1, api.Assigned)
		x.Car = car
		list = append(list, applied(t, b, x))
	}
	for i, a := range list {
		for j, b := range list {
			wantSame(t, a, b, i == j)
		}
	}
}

func TestSameOfOrders(t *testing.T) {
	b := New(site.Small())
	for range 3 {
		b = placed(t, b, up(1))
	}
	first := cancelled(t, cancelled(t, b, 1), 2)
	second := cancelled(t, cancelled(t, b, 2), 1)
	wantSame(t, first, second, false)
	wantSame(t, first, cancelled(t, cancelled(t, b, 1), 2), true)
}

func TestSameOfModes(t *testing.T) {
	list := []Book{at(New(building(4, 4)), 1)}
	for car := 1; car <= 4; car++ {
		b, _, _ := New(building(4, 4)).Set(car, 2)
		list = append(list, b)
	}
	for i, a := range list {
		for j, b := range list {
			wantSame(t, a, b, i == j)
		}
	}
}

// When a call ended, and what ended long ago, is not part of a book.
func TestSameOfOtherWays(t *testing.T) {
	none := New(building(1, 1))
	early, _, _ := cancelled(t, placed(t, none, up(1)), 1).Set(1, 1)
	set, _, _ := placed(t, none, up(1)).Set(1, 1)
	wantSame(t, early, cancelled(t, set, 1), true)
	after := placed(t, cancelled(t, placed(t, none, up(2)), 1), up(1))
	wantSame(t, cancelled(t, after, 3), cancelled(t, placed(t, at(none, 2), up(1)), 3), true)
}

// Books by chance

// dice are numbers out of bytes; 0, when there are no more.
type dice struct{ bytes []byte }

func (d *dice) roll(n int) int {
	if len(d.bytes) == 0 {
		return 0
	}
	b := int(d.bytes[0])
	d.bytes = d.bytes[1:]
	return b % n
}

// some is a number from -1 on, or, seldom, an end of its type.
func (d *dice) some(n int) int {
	if d.roll(32) == 31 {
		return ends()[d.roll(len(ends()))]
	}
	return d.roll(n+2) - 1
}

// call is one that could be asked, most times.
func (d *dice) call() api.Call {
	if d.roll(8) == 7 {
		list := notAsked()
		return list[d.roll(len(list))]
	}
	return asked()[d.roll(len(asked()))]
}

// next is a change that could be made of b, most times.
func (d *dice) next(b Book) api.Change {
	index := b.Index() + 1
	live := b.Live()
	switch d.roll(8) {
	case 0:
		return carsChange(index, d.some(5), d.some(4))
	case 1, 2:
		return callsChange(index, as(d.call(), index, api.Pending))
	case 3:
		return api.Change{Index: d.some(index + 2), Call: as(d.call(), d.some(index+2), d.some(8)), Car: d.some(5), Mode: d.some(4)}
	case 4:
		live = append(live, b.Done()...)
	}
	if len(live) == 0 {
		return api.Change{Index: index}
	}
	x := live[d.roll(len(live))]
	was := x.State
	x.State = 1 + d.roll(6)
	if x.Kind != api.Inside && (was == api.Pending || x.State == api.Pending) {
		x.Car = d.roll(3)
	}
	if d.roll(6) == 0 {
		x.From = d.some(7)
	}
	return callsChange(index, x)
}

// run is deeds out of bytes, on a book and on a model.
type run struct {
	t       testing.TB
	dice    *dice
	book    Book
	model   model
	changes []api.Change
	ended   map[int]bool
}

// step does one deed, and holds both against each other.
func (r *run) step() {
	r.t.Helper()
	older, olderModel := r.book, r.model
	var b Book
	var m model
	var x, y api.Change
	var err, wantedErr api.Errno
	switch r.dice.roll(6) {
	case 0, 1:
		ask, owner, now := r.dice.call(), 5+r.dice.some(2), 9+r.dice.some(2)
		b, x, err = r.book.Place(ask, owner, now)
		m, y, wantedErr = r.model.place(ask, owner, now)
	case 2:
		id, owner := r.dice.some(r.model.index+2), 5+r.dice.some(2)
		b, x, err = r.book.Cancel(id, owner)
		m, y, wantedErr = r.model.cancel(id, owner)
	case 3:
		car, mode := r.dice.some(5), r.dice.some(4)
		b, x, err = r.book.Set(car, mode)
		m, y, wantedErr = r.model.set(car, mode)
	default:
		change := r.dice.next(r.book)
		b, err = r.book.Apply(change)
		m, wantedErr = r.model.apply(change)
		if err == api.OK {
			x, y = change, change
		}
	}
	wantDeed(r.t, "a deed", b, x, err, m, y, wantedErr)
	want(r.t, older, olderModel)
	if err == api.OK {
		r.book, r.model, r.changes = b, m, append(r.changes, x)
		r.wantForGood(x)
	}
}

// wantForGood: what ended never lives again, and ids rise.
func (r *run) wantForGood(x api.Change) {
	r.t.Helper()
	if r.ended[x.Call.Id] {
		r.t.Fatalf("%+v, though it ended", x)
	}
	if x.Call.Id != 0 && !call.Lives(x.Call) {
		r.ended[x.Call.Id] = true
	}
	if !slices.IsSortedFunc(r.book.Live(), func(y, z api.Call) int { return y.Id - z.Id }) {
		r.t.Fatalf("Live() = %+v", r.book.Live())
	}
	if x.Call.Id > x.Index {
		r.t.Fatalf("%+v has an id that didn't come yet", x)
	}
}

// wantReplayed: the changes alone make the same book.
func (r *run) wantReplayed() {
	r.t.Helper()
	b := New(r.book.Conf())
	for _, x := range r.changes {
		var err api.Errno
		if b, err = b.Apply(x); err != api.OK {
			r.t.Fatalf("Apply(%+v) = %d", x, err)
		}
	}
	wantSame(r.t, b, r.book, true)
	want(r.t, b, r.model)
}

// runOf plays bytes to their end.
func runOf(t testing.TB, c api.Config, bytes []byte) *run {
	t.Helper()
	r := &run{t: t, dice: &dice{bytes}, book: New(c), model: newModel(c), ended: map[int]bool{}}
	for len(r.dice.bytes) > 0 {
		r.step()
	}
	r.wantReplayed()
	return r
}

func TestBooksByChance(t *testing.T) {
	source := rand.New(rand.NewSource(9))
	seen := map[int]int{}
	for i := range 60 {
		bytes := make([]byte, 4000)
		source.Read(bytes)
		r := runOf(t, buildings()[i%len(buildings())], bytes)
		for _, x := range r.changes {
			seen[x.Call.State]++
		}
	}
	for state := 0; state <= 6; state++ {
		if seen[state] < 20 {
			t.Fatalf("only %d changes to the state %d", seen[state], state)
		}
	}
}

func FuzzDeeds(f *testing.F) {
	f.Add(0, []byte{})
	f.Add(1, []byte("0123456789"))
	f.Add(2, []byte{0, 0, 0, 6, 1, 2, 0, 2, 0, 1, 3, 0, 2, 0, 2})
	f.Add(-1, []byte{4, 1, 0, 3, 4, 4, 5, 0, 1, 2})
	f.Fuzz(func(t *testing.T, which int, bytes []byte) {
		list := append(buildings(), building(5, 4))
		runOf(t, list[uint(which)%uint(len(list))], bytes[:min(len(bytes), 600)])
	})
}

func FuzzApply(f *testing.F) {
	f.Add(0, 4, 1, 1, 2, 0, 0, 1, 5, 9, 0, 0)
	f.Add(1, 4, 1, 4, 2, 4, 1, 4, 5, 9, 0, 0)
	f.Add(2, 2, 2, 1, 1, 0, 0, 1, 5, 9, 0, 0)
	f.Add(3, 1, 0, 0, 0, 0, 0, 0, 0, 0, 1, 2)
	f.Fuzz(func(t *testing.T, which, index, id, kind, from, to, car, state, owner, born, setCar, mode int) {
		list := []Book{ridden(t), placed(t, New(building(4, 4)), up(1)), placed(t, New(building(4, 1)), inside(2, 3)), New(building(4, 4)), {}}
		b := list[uint(which)%uint(len(list))]
		m := model{conf: b.conf, index: b.index, live: b.Live(), done: b.Done(), modes: newModel(b.conf).modes}
		x := api.Change{Index: index, Car: setCar, Mode: mode}
		x.Call = api.Call{Id: id, Kind: kind, From: from, To: to, Car: car, State: state, Owner: owner, Born: born}
		next, err := b.Apply(x)
		wanted, wantedErr := m.apply(x)
		wantDeed(t, "Apply", next, x, err, wanted, x, wantedErr)
		want(t, b, m)
	})
}
