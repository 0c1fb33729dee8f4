package call

import (
	"math"
	"math/rand"
	"slices"
	"testing"

	"hoistway/api"
	"hoistway/site"
)

// ends are numbers that are no floor, no car, no kind, no state and no id.
func ends() []int {
	return []int{-1, -2, math.MinInt, math.MinInt + 1, math.MinInt32, math.MinInt32 - 1, math.MaxInt32, math.MaxInt32 + 1, 1 << 32, 1<<32 + 1, 1<<32 + 2, math.MaxInt - 1, math.MaxInt}
}

// building is one with that many floors and cars, else small.
func building(floors, cars int) api.Config {
	c := site.Small()
	c.Floors, c.Cars = floors, cars
	return c
}

// buildings are some that can be.
func buildings() []api.Config {
	return []api.Config{site.Small(), building(2, 1), building(5, 4), building(3, 2), building(32, 4)}
}

// noBuildings can't be, most of them for a number that no call has to do with.
func noBuildings() []api.Config {
	list := []api.Config{{}, building(1, 1), building(33, 1), building(5, 0), building(5, 5), building(math.MaxInt, math.MaxInt), building(math.MinInt, 1)}
	for _, name := range site.Names() {
		for _, n := range []int{-1, math.MinInt, math.MaxInt} {
			c, _ := site.Set(building(5, 4), name, n)
			list = append(list, c)
		}
	}
	return list
}

// fields tell where the numbers of a call are.
func fields() []func(*api.Call) *int {
	return []func(*api.Call) *int{
		func(x *api.Call) *int { return &x.Id },
		func(x *api.Call) *int { return &x.Kind },
		func(x *api.Call) *int { return &x.From },
		func(x *api.Call) *int { return &x.To },
		func(x *api.Call) *int { return &x.Car },
		func(x *api.Call) *int { return &x.State },
		func(x *api.Call) *int { return &x.Owner },
		func(x *api.Call) *int { return &x.Born },
	}
}

// put is x with n as the k-th of its numbers.
func put(x api.Call, k, n int) api.Call {
	*fields()[k](&x) = n
	return x
}

func kinds() []int { return []int{api.Up, api.Down, api.Inside, api.Trip} }

func allKinds() []int { return append(ends(), 0, 1, 2, 3, 4, 5) }

func allStates() []int { return append(ends(), 0, 1, 2, 3, 4, 5, 6, 7) }

// plain is a call of that kind in the building of 5 floors and 4 cars, with all
// of its numbers apart, as far as the kind has them.
func plain(kind, state int) api.Call {
	x := api.Call{Id: 70, Kind: kind, From: 2, To: 4, Car: 3, State: state, Owner: 80, Born: 90}
	switch kind {
	case api.Up, api.Down:
		x.To = 0
	case api.Inside:
		x.From = 0
	}
	return x
}

// of is the call 7 of the owner 8, that was born at 9.
func of(kind, from, to, car, state int) api.Call {
	return api.Call{Id: 7, Kind: kind, From: from, To: to, Car: car, State: state, Owner: 8, Born: 9}
}

// raw are calls of each kind and state, with floors and cars that there are,
// and with others.
func raw() []api.Call {
	list := []api.Call{}
	for _, kind := range []int{-1, 0, 1, 2, 3, 4, 5} {
		for _, state := range []int{-1, 0, 1, 2, 3, 4, 5, 6, 7} {
			for _, from := range []int{-1, 0, 1, 2, 5, 6} {
				for _, to := range []int{0, 1, 2, 4, 5, 6} {
					for _, car := range []int{0, 1, 4, 5} {
						list = append(list, api.Call{Id: 70, Kind: kind, From: from, To: to, Car: car, State: state, Owner: 80, Born: 90})
					}
				}
			}
		}
	}
	return list
}

// want is what a step is to answer: a call, or an error beside the zero one.
func want(t testing.TB, what string, x api.Call, err api.Errno, wanted api.Call, wantedErr api.Errno) {
	t.Helper()
	if x != wanted || err != wantedErr {
		t.Fatalf("%s = %+v, %d, want %+v, %d", what, x, err, wanted, wantedErr)
	}
}

// refused is the error alone.
func refused(t testing.TB, what string, x api.Call, err api.Errno, wantedErr api.Errno) {
	t.Helper()
	want(t, what, x, err, api.Call{}, wantedErr)
}

// The chapter's words, written anew

func floorOf(c api.Config, n int) bool { return site.Check(c) == api.OK && n >= 1 && n <= c.Floors }

func carOf(c api.Config, n int) bool { return site.Check(c) == api.OK && n >= 1 && n <= c.Cars }

// asks is the chapter's 'It can be asked', of a building that can be.
func asks(c api.Config, x api.Call) bool {
	fresh := x.Id == 0 && x.State == 0 && x.Owner == 0 && x.Born == 0
	up := x.Kind == 1 && x.From >= 1 && x.From <= c.Floors-1 && x.To == 0 && x.Car == 0
	down := x.Kind == 2 && x.From >= 2 && x.From <= c.Floors && x.To == 0 && x.Car == 0
	inside := x.Kind == 3 && carOf(c, x.Car) && floorOf(c, x.To) && x.From == 0
	trip := x.Kind == 4 && floorOf(c, x.From) && floorOf(c, x.To) && x.From != x.To && x.Car == 0
	return fresh && (up || down || inside || trip)
}

// goesOn is the chapter's table, row by row.
func goesOn(c api.Config, a, b api.Call) bool {
	if site.Check(c) != api.OK || a.Id != b.Id || a.Kind != b.Kind || a.To != b.To || a.Owner != b.Owner || a.Born != b.Born {
		return false
	}
	sameFrom, sameCar := a.From == b.From, a.Car == b.Car
	noCar := b.Car == 0
	if a.Kind == 3 {
		noCar = sameCar
	}
	switch [2]int{a.State, b.State} {
	case [2]int{1, 2}:
		return sameFrom && carOf(c, b.Car) && (a.Kind != 3 || sameCar)
	case [2]int{1, 6}, [2]int{2, 1}:
		return sameFrom && noCar
	case [2]int{2, 3}:
		return sameFrom && sameCar && a.Kind == 4
	case [2]int{2, 4}:
		return sameFrom && sameCar && a.Kind != 4
	case [2]int{3, 4}, [2]int{1, 5}, [2]int{2, 5}:
		return sameFrom && sameCar
	case [2]int{3, 1}:
		return noCar && floorOf(c, b.From) && b.From != b.To
	}
	return false
}

// made are all that the six steps make of x, each with the cars and floors of c.
func made(c api.Config, x api.Call) []api.Call {
	list := []api.Call{}
	add := func(y api.Call, err api.Errno) {
		if err == api.OK {
			list = append(list, y)
		}
	}
	for car := -1; car <= c.Cars+1; car++ {
		add(Assign(c, x, car))
	}
	for floor := -1; floor <= c.Floors+1; floor++ {
		add(Leave(c, x, floor))
	}
	add(Board(x))
	add(Serve(x))
	add(Cancel(x))
	add(Expire(x))
	return list
}

// P8.1

func wantCheck(t testing.TB, c api.Config, x api.Call, wanted api.Errno) {
	t.Helper()
	if err := Check(c, x); err != wanted {
		t.Fatalf("Check of %+v with %d floors and %d cars = %d, want %d", x, c.Floors, c.Cars, err, wanted)
	}
}

func TestCheckOfHallCalls(t *testing.T) {
	for floors := 2; floors <= 32; floors++ {
		c := building(floors, 1)
		for from := -3; from <= 40; from++ {
			up, down := api.ErrArg, api.ErrArg
			if from >= 1 && from <= floors-1 {
				up = api.OK
			}
			if from >= 2 && from <= floors {
				down = api.OK
			}
			wantCheck(t, c, api.Call{Kind: api.Up, From: from}, up)
			wantCheck(t, c, api.Call{Kind: api.Down, From: from}, down)
		}
		for _, from := range ends() {
			wantCheck(t, c, api.Call{Kind: api.Up, From: from}, api.ErrArg)
			wantCheck(t, c, api.Call{Kind: api.Down, From: from}, api.ErrArg)
		}
	}
}

func TestCheckOfInside(t *testing.T) {
	for cars := 1; cars <= 4; cars++ {
		c := building(5, cars)
		for car := -2; car <= 6; car++ {
			for to := -2; to <= 7; to++ {
				wanted := api.ErrArg
				if car >= 1 && car <= cars && to >= 1 && to <= 5 {
					wanted = api.OK
				}
				wantCheck(t, c, api.Call{Kind: api.Inside, Car: car, To: to}, wanted)
			}
		}
		for _, n := range ends() {
			wantCheck(t, c, api.Call{Kind: api.Inside, Car: n, To: 1}, api.ErrArg)
			wantCheck(t, c, api.Call{Kind: api.Inside, Car: 1, To: n}, api.ErrArg)
		}
	}
}

func TestCheckOfTrip(t *testing.T) {
	for _, c := range buildings() {
		for from := -2; from <= 34; from++ {
			for to := -2; to <= 34; to++ {
				wanted := api.OK
				if from < 1 || from > c.Floors || to < 1 || to > c.Floors || from == to {
					wanted = api.ErrArg
				}
				wantCheck(t, c, api.Call{Kind: api.Trip, From: from, To: to}, wanted)
			}
		}
		for _, n := range ends() {
			wantCheck(t, c, api.Call{Kind: api.Trip, From: n, To: 1}, api.ErrArg)
			wantCheck(t, c, api.Call{Kind: api.Trip, From: 1, To: n}, api.ErrArg)
			wantCheck(t, c, api.Call{Kind: api.Trip, From: n, To: n}, api.ErrArg)
		}
	}
}

// fresh are calls that can be asked in the building of 5 floors and 4 cars.
func fresh() []api.Call {
	return []api.Call{
		{Kind: api.Up, From: 1}, {Kind: api.Up, From: 4}, {Kind: api.Up, From: 3},
		{Kind: api.Down, From: 2}, {Kind: api.Down, From: 5}, {Kind: api.Down, From: 3},
		{Kind: api.Inside, Car: 1, To: 1}, {Kind: api.Inside, Car: 4, To: 5}, {Kind: api.Inside, Car: 2, To: 3},
		{Kind: api.Trip, From: 1, To: 5}, {Kind: api.Trip, From: 5, To: 1}, {Kind: api.Trip, From: 2, To: 4},
	}
}

func TestCheckOfEachNumberChanged(t *testing.T) {
	c := building(5, 4)
	for _, x := range fresh() {
		wantCheck(t, c, x, api.OK)
		for k := range fields() {
			for _, n := range append(ends(), 0, 1, 2, 3, 4, 5, 6, 33, 1<<30) {
				y := put(x, k, n)
				wanted := api.ErrArg
				if asks(c, y) {
					wanted = api.OK
				}
				wantCheck(t, c, y, wanted)
			}
		}
	}
}

func TestCheckOfWhatWasAsked(t *testing.T) {
	c := building(5, 4)
	for _, x := range fresh() {
		for _, n := range append(ends(), 1, 2, 1<<30) {
			for _, k := range []int{0, 5, 6, 7} {
				wantCheck(t, c, put(x, k, n), api.ErrArg)
				y, err := New(c, put(x, k, n), 1, 1, 1)
				refused(t, "New of what has an Id, State, Owner or Born", y, err, api.ErrArg)
			}
		}
	}
}

func TestCheckOfWhatIsntNamed(t *testing.T) {
	c := building(5, 4)
	for _, x := range []api.Call{
		{Kind: api.Up, From: 2, To: 3}, {Kind: api.Up, From: 2, Car: 1}, {Kind: api.Up, From: 2, To: -1}, {Kind: api.Up, From: 2, Car: -1},
		{Kind: api.Down, From: 2, To: 1}, {Kind: api.Down, From: 2, Car: 1}, {Kind: api.Down, From: 2, To: -1}, {Kind: api.Down, From: 2, Car: -1},
		{Kind: api.Inside, Car: 1, To: 2, From: 3}, {Kind: api.Inside, Car: 1, To: 2, From: -1}, {Kind: api.Inside, Car: 1, To: 2, From: 2},
		{Kind: api.Trip, From: 2, To: 3, Car: 1}, {Kind: api.Trip, From: 2, To: 3, Car: -1},
	} {
		wantCheck(t, c, x, api.ErrArg)
	}
}

func TestCheckOfNoKind(t *testing.T) {
	c := building(5, 4)
	for _, kind := range append(ends(), 0, 5, 6) {
		for _, x := range append(fresh(), api.Call{}) {
			x.Kind = kind
			wantCheck(t, c, x, api.ErrArg)
			y, err := New(c, x, 1, 1, 1)
			refused(t, "New of no kind", y, err, api.ErrArg)
		}
	}
}

func TestCheckOfRaw(t *testing.T) {
	for _, c := range buildings() {
		for _, x := range raw() {
			for _, y := range []api.Call{x, {Kind: x.Kind, From: x.From, To: x.To, Car: x.Car}} {
				wanted := api.ErrArg
				if asks(c, y) {
					wanted = api.OK
				}
				wantCheck(t, c, y, wanted)
			}
		}
	}
}

func TestRangeComesFirst(t *testing.T) {
	for _, c := range noBuildings() {
		for _, x := range append(fresh(), api.Call{}, plain(api.Trip, api.Pending), api.Call{Kind: -1}, api.Call{Kind: api.Up, From: 99}) {
			wantCheck(t, c, x, api.ErrRange)
			y, err := New(c, x, 1, 1, 1)
			refused(t, "New in no building", y, err, api.ErrRange)
			y, err = New(c, x, 0, -1, math.MaxInt)
			refused(t, "New in no building, by no id", y, err, api.ErrRange)
		}
	}
}

func TestNew(t *testing.T) {
	c := building(5, 4)
	for _, x := range fresh() {
		for _, id := range []int{1, 2, 1<<30 - 1, 1 << 30} {
			for _, owner := range []int{1, 3, 1<<30 - 1, 1 << 30} {
				for _, born := range []int{0, 1, 5, 1<<30 - 1, 1 << 30} {
					wanted := x
					wanted.Id, wanted.Owner, wanted.Born, wanted.State = id, owner, born, api.Pending
					y, err := New(c, x, id, owner, born)
					want(t, "New", y, err, wanted, api.OK)
				}
			}
		}
	}
}

func TestNewOfWrongNumbers(t *testing.T) {
	c := building(5, 4)
	for _, x := range fresh() {
		for _, n := range append(ends(), 1<<30+1, 1<<31) {
			for _, good := range []int{1, 1 << 30} {
				y, err := New(c, x, n, good, good)
				refused(t, "New by no id", y, err, api.ErrArg)
				y, err = New(c, x, good, n, good)
				refused(t, "New by no owner", y, err, api.ErrArg)
				y, err = New(c, x, good, good, n)
				refused(t, "New at no tick", y, err, api.ErrArg)
			}
			y, err := New(c, x, n, n, n)
			refused(t, "New by none of them", y, err, api.ErrArg)
		}
		y, err := New(c, x, 0, 1, 1)
		refused(t, "New by the id 0", y, err, api.ErrArg)
		y, err = New(c, x, 1, 0, 1)
		refused(t, "New by the owner 0", y, err, api.ErrArg)
	}
}

func TestNewOfWhatCantBeAsked(t *testing.T) {
	for _, c := range buildings() {
		for _, x := range raw() {
			y := api.Call{Kind: x.Kind, From: x.From, To: x.To, Car: x.Car}
			z, err := New(c, y, 7, 8, 9)
			if asks(c, y) {
				y.Id, y.Owner, y.Born, y.State = 7, 8, 9, api.Pending
				want(t, "New", z, err, y, api.OK)
				continue
			}
			refused(t, "New", z, err, api.ErrArg)
		}
	}
}

func TestLives(t *testing.T) {
	for _, kind := range allKinds() {
		for _, state := range allStates() {
			if Lives(plain(kind, state)) != (state >= 1 && state <= 3) {
				t.Fatalf("Lives of the kind %d in the state %d", kind, state)
			}
		}
	}
	if Lives(api.Call{}) || !Lives(api.Call{State: api.Pending}) || !Lives(api.Call{State: api.Assigned}) || !Lives(api.Call{State: api.Riding}) {
		t.Fatal("Lives of what has a State alone")
	}
}

// P8.2

func TestAssign(t *testing.T) {
	for cars := 1; cars <= 4; cars++ {
		c := building(5, cars)
		for _, kind := range allKinds() {
			for own := -1; own <= 6; own++ {
				for car := -1; car <= 6; car++ {
					x := plain(kind, api.Pending)
					x.Car = own
					y, err := Assign(c, x, car)
					if car < 1 || car > cars || kind == api.Inside && car != own {
						refused(t, "Assign", y, err, api.ErrArg)
						continue
					}
					wanted := x
					wanted.State, wanted.Car = api.Assigned, car
					want(t, "Assign", y, err, wanted, api.OK)
				}
			}
		}
	}
}

func TestAssignToNoCar(t *testing.T) {
	for _, kind := range kinds() {
		for _, car := range append(ends(), 0, 5) {
			x := plain(kind, api.Pending)
			y, err := Assign(building(5, 4), x, car)
			refused(t, "Assign to no car", y, err, api.ErrArg)
			// An Inside in a car that isn't one can't be told to it either.
			x.Car = car
			y, err = Assign(building(5, 4), x, car)
			refused(t, "Assign to no car, its own", y, err, api.ErrArg)
		}
		for _, c := range noBuildings() {
			y, err := Assign(c, plain(kind, api.Pending), 3)
			refused(t, "Assign in no building", y, err, api.ErrArg)
		}
	}
}

func TestAssignStateComesFirst(t *testing.T) {
	for _, kind := range allKinds() {
		for _, state := range allStates() {
			if state == api.Pending {
				continue
			}
			for _, c := range append(noBuildings(), building(5, 4)) {
				for _, car := range []int{3, 1, 0, 5, math.MinInt, math.MaxInt} {
					y, err := Assign(c, plain(kind, state), car)
					refused(t, "Assign of what isn't Pending", y, err, api.ErrState)
				}
			}
		}
	}
}

func TestLeaveOfAssigned(t *testing.T) {
	c := building(5, 4)
	for _, kind := range allKinds() {
		for _, from := range append(ends(), 0, 1, 2, 3, 4, 5, 6) {
			for floor := 1; floor <= 5; floor++ {
				for _, to := range []int{0, floor, 4} {
					x := plain(kind, api.Assigned)
					x.From, x.To = from, to
					wanted := x
					wanted.State = api.Pending
					if kind != api.Inside {
						wanted.Car = 0
					}
					y, err := Leave(c, x, floor)
					want(t, "Leave of an Assigned one", y, err, wanted, api.OK)
				}
			}
		}
	}
}

func TestLeaveOfRiding(t *testing.T) {
	c := building(5, 4)
	for _, kind := range allKinds() {
		for _, to := range append(ends(), 0, 1, 2, 3, 4, 5, 6) {
			for floor := 1; floor <= 5; floor++ {
				x := plain(kind, api.Riding)
				x.To = to
				wanted := x
				if to == floor {
					wanted.State = api.Served
				} else {
					wanted.State, wanted.From = api.Pending, floor
					if kind != api.Inside {
						wanted.Car = 0
					}
				}
				y, err := Leave(c, x, floor)
				want(t, "Leave of a Riding one", y, err, wanted, api.OK)
			}
		}
	}
}

func TestLeaveAtNoFloor(t *testing.T) {
	for _, kind := range allKinds() {
		for _, state := range []int{api.Assigned, api.Riding} {
			x := plain(kind, state)
			for _, floor := range append(ends(), 0, 6, 32, 33) {
				y, err := Leave(building(5, 4), x, floor)
				refused(t, "Leave at no floor", y, err, api.ErrArg)
				y, err = Leave(building(5, 4), put(x, 3, floor), floor)
				refused(t, "Leave at no floor, its own", y, err, api.ErrArg)
			}
			for _, c := range noBuildings() {
				for floor := range 6 {
					y, err := Leave(c, x, floor)
					refused(t, "Leave in no building", y, err, api.ErrArg)
				}
			}
		}
	}
}

func TestLeaveAtEdges(t *testing.T) {
	for _, c := range buildings() {
		x := api.Call{Id: 1, Kind: api.Trip, From: 1, To: 2, Car: 1, State: api.Assigned, Owner: 1}
		for floor := -1; floor <= 34; floor++ {
			wanted := api.OK
			if floor < 1 || floor > c.Floors {
				wanted = api.ErrArg
			}
			if _, err := Leave(c, x, floor); err != wanted {
				t.Fatalf("Leave at %d of %d floors = %d, want %d", floor, c.Floors, err, wanted)
			}
		}
	}
}

func TestLeaveStateComesFirst(t *testing.T) {
	for _, kind := range allKinds() {
		for _, state := range allStates() {
			if state == api.Assigned || state == api.Riding {
				continue
			}
			for _, c := range append(noBuildings(), building(5, 4)) {
				for _, floor := range []int{1, 4, 0, 6, math.MinInt, math.MaxInt} {
					y, err := Leave(c, plain(kind, state), floor)
					refused(t, "Leave of what is in no car", y, err, api.ErrState)
				}
			}
		}
	}
}

// wantStep holds a step that asks for no building against what it may be asked
// of, and what it makes.
func wantStep(t *testing.T, what string, do func(api.Call) (api.Call, api.Errno), may func(api.Call) bool, state int, keeps func(api.Call) bool) {
	t.Helper()
	list := raw()
	for _, kind := range allKinds() {
		for _, state := range allStates() {
			list = append(list, plain(kind, state))
		}
	}
	for _, x := range list {
		y, err := do(x)
		if !may(x) {
			refused(t, what, y, err, api.ErrState)
			continue
		}
		wanted := x
		wanted.State = state
		if !keeps(x) {
			wanted.Car = 0
		}
		want(t, what, y, err, wanted, api.OK)
	}
}

func always(api.Call) bool { return true }

func TestBoard(t *testing.T) {
	wantStep(t, "Board", Board, func(x api.Call) bool { return x.State == 2 && x.Kind == 4 }, api.Riding, always)
}

func TestServe(t *testing.T) {
	wantStep(t, "Serve", Serve, func(x api.Call) bool { return x.State == 3 || x.State == 2 && x.Kind != 4 }, api.Served, always)
}

func TestCancel(t *testing.T) {
	wantStep(t, "Cancel", Cancel, func(x api.Call) bool { return x.State == 1 || x.State == 2 }, api.Cancelled, always)
}

func TestExpire(t *testing.T) {
	wantStep(t, "Expire", Expire, func(x api.Call) bool { return x.State == 1 }, api.Expired, func(x api.Call) bool { return x.Kind == 3 })
}

func TestStepsOfNothing(t *testing.T) {
	for what, do := range map[string]step{"Board": Board, "Serve": Serve, "Cancel": Cancel, "Expire": Expire} {
		y, err := do(api.Call{})
		refused(t, what, y, err, api.ErrState)
	}
}

// P8.3

// wantMay holds one pair against the table.
func wantMay(t testing.TB, c api.Config, a, b api.Call, wanted bool) {
	t.Helper()
	if May(c, a, b) != wanted {
		t.Fatalf("May with %d floors and %d cars\nof %+v\nto %+v, want %v", c.Floors, c.Cars, a, b, wanted)
	}
}

// rows are pairs of the chapter's table, written out, in the building of 5
// floors and 4 cars.
func rows() [][2]api.Call {
	return [][2]api.Call{
		{of(api.Up, 2, 0, 0, api.Pending), of(api.Up, 2, 0, 1, api.Assigned)},
		{of(api.Down, 2, 0, 0, api.Pending), of(api.Down, 2, 0, 4, api.Assigned)},
		{of(api.Inside, 0, 5, 3, api.Pending), of(api.Inside, 0, 5, 3, api.Assigned)},
		{of(api.Trip, 2, 4, 0, api.Pending), of(api.Trip, 2, 4, 2, api.Assigned)},
		{of(api.Up, 2, 0, 0, api.Pending), of(api.Up, 2, 0, 0, api.Expired)},
		{of(api.Down, 2, 0, 0, api.Pending), of(api.Down, 2, 0, 0, api.Expired)},
		{of(api.Inside, 0, 5, 3, api.Pending), of(api.Inside, 0, 5, 3, api.Expired)},
		{of(api.Trip, 2, 4, 0, api.Pending), of(api.Trip, 2, 4, 0, api.Expired)},
		{of(api.Up, 2, 0, 1, api.Assigned), of(api.Up, 2, 0, 0, api.Pending)},
		{of(api.Down, 2, 0, 1, api.Assigned), of(api.Down, 2, 0, 0, api.Pending)},
		{of(api.Inside, 0, 5, 3, api.Assigned), of(api.Inside, 0, 5, 3, api.Pending)},
		{of(api.Trip, 2, 4, 3, api.Assigned), of(api.Trip, 2, 4, 0, api.Pending)},
		{of(api.Trip, 2, 4, 3, api.Assigned), of(api.Trip, 2, 4, 3, api.Riding)},
		{of(api.Up, 2, 0, 3, api.Assigned), of(api.Up, 2, 0, 3, api.Served)},
		{of(api.Down, 2, 0, 3, api.Assigned), of(api.Down, 2, 0, 3, api.Served)},
		{of(api.Inside, 0, 5, 3, api.Assigned), of(api.Inside, 0, 5, 3, api.Served)},
		{of(api.Trip, 2, 4, 3, api.Riding), of(api.Trip, 2, 4, 3, api.Served)},
		{of(api.Trip, 2, 4, 3, api.Riding), of(api.Trip, 3, 4, 0, api.Pending)},
		{of(api.Trip, 2, 4, 3, api.Riding), of(api.Trip, 2, 4, 0, api.Pending)},
		{of(api.Trip, 2, 4, 3, api.Riding), of(api.Trip, 5, 4, 0, api.Pending)},
		{of(api.Inside, 0, 5, 3, api.Riding), of(api.Inside, 1, 5, 3, api.Pending)},
		{of(api.Up, 2, 0, 0, api.Pending), of(api.Up, 2, 0, 0, api.Cancelled)},
		{of(api.Down, 2, 0, 3, api.Assigned), of(api.Down, 2, 0, 3, api.Cancelled)},
		{of(api.Inside, 0, 5, 3, api.Pending), of(api.Inside, 0, 5, 3, api.Cancelled)},
		{of(api.Trip, 2, 4, 3, api.Assigned), of(api.Trip, 2, 4, 3, api.Cancelled)},
	}
}

func TestMayByRows(t *testing.T) {
	for _, p := range rows() {
		wantMay(t, building(5, 4), p[0], p[1], true)
		for _, c := range noBuildings() {
			wantMay(t, c, p[0], p[1], false)
		}
	}
}

// What a row doesn't name stays: with any other number there, no row leads there.
func TestMayWithEachNumberChanged(t *testing.T) {
	c := building(5, 4)
	for _, p := range rows() {
		for k := range fields() {
			for _, n := range append(ends(), 0, 1, 2, 3, 4, 5, 6, 7, 8, 9, 10) {
				b := put(p[1], k, n)
				wantMay(t, c, p[0], b, goesOn(c, p[0], b))
				a := put(p[0], k, n)
				wantMay(t, c, a, p[1], goesOn(c, a, p[1]))
				wantMay(t, c, a, b, goesOn(c, a, b))
			}
		}
		for _, k := range []int{0, 1, 3, 6, 7} {
			for _, add := range []int{1, -1, 1 << 32, math.MinInt} {
				wantMay(t, c, p[0], put(p[1], k, *fields()[k](&p[1])+add), false)
			}
		}
	}
}

func TestMayOfWrongRows(t *testing.T) {
	for k, p := range [][2]api.Call{
		// Assigned to no car, or to another one's.
		{of(api.Trip, 2, 4, 0, api.Pending), of(api.Trip, 2, 4, 0, api.Assigned)},
		{of(api.Trip, 2, 4, 0, api.Pending), of(api.Trip, 2, 4, 5, api.Assigned)},
		{of(api.Inside, 0, 5, 3, api.Pending), of(api.Inside, 0, 5, 2, api.Assigned)},
		{of(api.Inside, 0, 5, 5, api.Pending), of(api.Inside, 0, 5, 5, api.Assigned)},
		{of(api.Inside, 0, 5, 0, api.Pending), of(api.Inside, 0, 5, 0, api.Assigned)},
		// With a car still, or an Inside without its own.
		{of(api.Trip, 2, 4, 3, api.Pending), of(api.Trip, 2, 4, 3, api.Expired)},
		{of(api.Inside, 0, 5, 3, api.Pending), of(api.Inside, 0, 5, 0, api.Expired)},
		{of(api.Trip, 2, 4, 3, api.Assigned), of(api.Trip, 2, 4, 3, api.Pending)},
		{of(api.Inside, 0, 5, 3, api.Assigned), of(api.Inside, 0, 5, 0, api.Pending)},
		{of(api.Trip, 2, 4, 3, api.Riding), of(api.Trip, 3, 4, 3, api.Pending)},
		{of(api.Inside, 0, 5, 3, api.Riding), of(api.Inside, 1, 5, 0, api.Pending)},
		// From another floor, though it wasn't in the car.
		{of(api.Trip, 2, 4, 3, api.Assigned), of(api.Trip, 3, 4, 0, api.Pending)},
		// From where it is to go, or from no floor.
		{of(api.Trip, 2, 4, 3, api.Riding), of(api.Trip, 4, 4, 0, api.Pending)},
		{of(api.Trip, 2, 4, 3, api.Riding), of(api.Trip, 0, 4, 0, api.Pending)},
		{of(api.Trip, 2, 4, 3, api.Riding), of(api.Trip, 6, 4, 0, api.Pending)},
		// A Trip isn't served ahead of its ride, and no other kind rides.
		{of(api.Trip, 2, 4, 3, api.Assigned), of(api.Trip, 2, 4, 3, api.Served)},
		{of(api.Up, 2, 0, 3, api.Assigned), of(api.Up, 2, 0, 3, api.Riding)},
		{of(api.Down, 2, 0, 3, api.Assigned), of(api.Down, 2, 0, 3, api.Riding)},
		{of(api.Inside, 0, 5, 3, api.Assigned), of(api.Inside, 0, 5, 3, api.Riding)},
		// Cancelled otherwise than as it is, or when it rides.
		{of(api.Trip, 2, 4, 3, api.Assigned), of(api.Trip, 2, 4, 0, api.Cancelled)},
		{of(api.Trip, 2, 4, 3, api.Riding), of(api.Trip, 2, 4, 3, api.Cancelled)},
		{of(api.Trip, 2, 4, 3, api.Riding), of(api.Trip, 2, 4, 0, api.Expired)},
		{of(api.Trip, 2, 4, 3, api.Assigned), of(api.Trip, 2, 4, 0, api.Expired)},
		// Two rows at once, or none.
		{of(api.Up, 2, 0, 0, api.Pending), of(api.Up, 2, 0, 0, api.Served)},
		{of(api.Trip, 2, 4, 0, api.Pending), of(api.Trip, 2, 4, 3, api.Riding)},
		{of(api.Trip, 2, 4, 0, api.Pending), of(api.Trip, 2, 4, 0, api.Pending)},
		{of(api.Trip, 2, 4, 3, api.Assigned), of(api.Trip, 2, 4, 3, api.Assigned)},
		{of(api.Trip, 2, 4, 3, api.Assigned), of(api.Trip, 2, 4, 2, api.Assigned)},
		{{}, of(api.Trip, 2, 4, 0, api.Pending)},
		{{}, {}},
	} {
		if May(building(5, 4), p[0], p[1]) || goesOn(building(5, 4), p[0], p[1]) {
			t.Fatalf("the wrong row %d: %+v to %+v", k, p[0], p[1])
		}
	}
}

// leftAt is x Pending, without its car, at that floor.
func leftAt(x api.Call, floor int) api.Call {
	x.State, x.From = api.Pending, floor
	if x.Kind != api.Inside {
		x.Car = 0
	}
	return x
}

// An Assigned one that stays where it was may have been anywhere; all other
// floors and cars that count are those of the building.
func TestMayAtEnds(t *testing.T) {
	c := building(5, 4)
	for _, n := range append(ends(), 0, 6) {
		for _, kind := range allKinds() {
			a := put(plain(kind, api.Assigned), 2, n)
			b := leftAt(a, n)
			wantMay(t, c, a, b, true)
			a = plain(kind, api.Riding)
			b = leftAt(a, n)
			wantMay(t, c, a, b, false)
			a = plain(kind, api.Pending)
			wantMay(t, c, a, put(put(a, 5, api.Assigned), 4, n), false)
			wantMay(t, c, put(a, 4, n), put(put(a, 5, api.Assigned), 4, n), false)
		}
	}
}

func TestMayOfNoStates(t *testing.T) {
	for _, kind := range kinds() {
		for _, one := range allStates() {
			for _, other := range allStates() {
				for _, car := range []int{0, 3} {
					a := plain(kind, one)
					b := put(put(a, 5, other), 4, car)
					wantMay(t, building(5, 4), a, b, goesOn(building(5, 4), a, b))
				}
			}
		}
	}
}

func TestMayOfAllStates(t *testing.T) {
	for _, c := range []api.Config{building(5, 4), building(2, 1), site.Small()} {
		for _, kind := range []int{-1, 0, 1, 2, 3, 4, 5} {
			for _, from := range []int{0, 1, 2, 4, 5, 6} {
				for _, car := range []int{0, 1, 3} {
					pairsOfStates(t, c, put(put(plain(kind, 0), 2, from), 4, car))
				}
			}
		}
	}
}

// pairsOfStates asks for x in each state, and for what differs in the state, the
// floor and the car.
func pairsOfStates(t *testing.T, c api.Config, x api.Call) {
	t.Helper()
	for one := -1; one <= 7; one++ {
		a := put(x, 5, one)
		for other := -1; other <= 7; other++ {
			for _, from := range []int{x.From, 0, 1, 4, 5, 6} {
				for _, car := range []int{x.Car, 0, 1, 4, 5} {
					b := put(put(put(x, 5, other), 2, from), 4, car)
					wantMay(t, c, a, b, goesOn(c, a, b))
				}
			}
		}
	}
}

func TestDir(t *testing.T) {
	for _, state := range allStates() {
		for _, from := range append(ends(), 0, 1, 2, 5) {
			for _, to := range append(ends(), 0, 1, 2, 5) {
				for _, kind := range allKinds() {
					wanted := 0
					switch {
					case kind == 1, kind == 4 && to > from:
						wanted = 1
					case kind == 2, kind == 4 && to <= from:
						wanted = -1
					}
					x := api.Call{Kind: kind, From: from, To: to, State: state}
					if d := Dir(x); d != wanted {
						t.Fatalf("Dir of %+v = %d, want %d", x, d, wanted)
					}
				}
			}
		}
	}
}

func TestGoal(t *testing.T) {
	for _, kind := range allKinds() {
		for _, state := range allStates() {
			for _, from := range []int{0, 2, math.MinInt, math.MaxInt} {
				for _, to := range []int{0, 4, math.MinInt, math.MaxInt} {
					wanted := from
					if kind == 3 || state == 3 {
						wanted = to
					}
					x := api.Call{Kind: kind, From: from, To: to, State: state, Car: 1}
					if goal := Goal(x); goal != wanted {
						t.Fatalf("Goal of %+v = %d, want %d", x, goal, wanted)
					}
				}
			}
		}
	}
}

// P8.4

func TestWhatIsMadeGoesOn(t *testing.T) {
	for _, c := range buildings() {
		for _, x := range raw() {
			for _, y := range made(c, x) {
				wantMay(t, c, x, y, true)
				if !goesOn(c, x, y) {
					t.Fatalf("no row leads from %+v to %+v", x, y)
				}
			}
		}
	}
}

func TestWhatGoesOnIsMade(t *testing.T) {
	c := building(5, 4)
	for _, p := range rows() {
		for k := range fields() {
			for n := -1; n <= 9; n++ {
				b := put(p[1], k, n)
				if is := slices.Contains(made(c, p[0]), b); is != May(c, p[0], b) {
					t.Fatalf("May of %+v to %+v, that is made: %v", p[0], b, is)
				}
			}
		}
	}
}

func TestWhatDoesntLiveNeverGoesOn(t *testing.T) {
	c := building(5, 4)
	for _, kind := range allKinds() {
		for _, state := range allStates() {
			x := plain(kind, state)
			if Lives(x) {
				continue
			}
			if list := made(c, x); len(list) != 0 {
				t.Fatalf("%+v goes on to %+v", x, list)
			}
			for _, next := range allStates() {
				for _, car := range []int{0, 1, 3} {
					wantMay(t, c, x, put(put(x, 5, next), 4, car), false)
				}
			}
		}
	}
}

func TestWhatLivesGoesOn(t *testing.T) {
	for _, x := range fresh() {
		x, err := New(building(5, 4), x, 7, 8, 9)
		if err != api.OK {
			t.Fatalf("New = %d", err)
		}
		for _, state := range []int{api.Pending, api.Assigned, api.Riding} {
			if y := put(x, 5, state); len(made(building(5, 4), y)) == 0 {
				t.Fatalf("%+v doesn't go on", y)
			}
		}
	}
}

// All of a layer together

func TestTripOfTheChapter(t *testing.T) {
	c := site.Small()
	x, err := New(c, api.Call{Kind: api.Trip, From: 2, To: 4}, 7, 8, 9)
	want(t, "New", x, err, api.Call{Id: 7, Kind: api.Trip, From: 2, To: 4, State: api.Pending, Owner: 8, Born: 9}, api.OK)
	wantGoing(t, x, 1, 2, true)
	a, err := Assign(c, x, 1)
	want(t, "Assign", a, err, api.Call{Id: 7, Kind: api.Trip, From: 2, To: 4, Car: 1, State: api.Assigned, Owner: 8, Born: 9}, api.OK)
	wantGoing(t, a, 1, 2, true)
	b, err := Board(a)
	want(t, "Board", b, err, api.Call{Id: 7, Kind: api.Trip, From: 2, To: 4, Car: 1, State: api.Riding, Owner: 8, Born: 9}, api.OK)
	wantGoing(t, b, 1, 4, true)
	s, err := Serve(b)
	want(t, "Serve", s, err, api.Call{Id: 7, Kind: api.Trip, From: 2, To: 4, Car: 1, State: api.Served, Owner: 8, Born: 9}, api.OK)
	wantGoing(t, s, 1, 2, false)
}

func wantGoing(t *testing.T, x api.Call, dir, goal int, lives bool) {
	t.Helper()
	if Dir(x) != dir || Goal(x) != goal || Lives(x) != lives {
		t.Fatalf("Dir, Goal, Lives of %+v = %d, %d, %v, want %d, %d, %v", x, Dir(x), Goal(x), Lives(x), dir, goal, lives)
	}
}

func TestEachKindTillItsEnd(t *testing.T) {
	c := building(5, 4)
	for _, x := range []api.Call{{Kind: api.Up, From: 2}, {Kind: api.Down, From: 2}, {Kind: api.Inside, Car: 3, To: 2}} {
		x, err := New(c, x, 1, 1, 0)
		if err != api.OK {
			t.Fatalf("New of %+v = %d", x, err)
		}
		wantGoing(t, x, map[int]int{api.Up: 1, api.Down: -1}[x.Kind], 2, true)
		a, err := Assign(c, x, 3)
		want(t, "Assign", a, err, put(put(x, 4, 3), 5, api.Assigned), api.OK)
		wantGoing(t, a, Dir(x), 2, true)
		y, err := Board(a)
		refused(t, "Board", y, err, api.ErrState)
		s, err := Serve(a)
		want(t, "Serve", s, err, put(a, 5, api.Served), api.OK)
		wantGoing(t, s, Dir(x), 2, false)
	}
}

// Who was in a car that left waits at that floor, and is taken by another one.
func TestTripByTwoCars(t *testing.T) {
	c := building(5, 2)
	x, _ := New(c, api.Call{Kind: api.Trip, From: 1, To: 5}, 1, 1, 0)
	x, _ = Assign(c, x, 1)
	x, _ = Board(x)
	x, err := Leave(c, x, 3)
	want(t, "Leave", x, err, api.Call{Id: 1, Kind: api.Trip, From: 3, To: 5, State: api.Pending, Owner: 1}, api.OK)
	x, err = Assign(c, x, 2)
	want(t, "Assign", x, err, api.Call{Id: 1, Kind: api.Trip, From: 3, To: 5, Car: 2, State: api.Assigned, Owner: 1}, api.OK)
	x, _ = Board(x)
	x, err = Leave(c, x, 5)
	want(t, "Leave", x, err, api.Call{Id: 1, Kind: api.Trip, From: 3, To: 5, Car: 2, State: api.Served, Owner: 1}, api.OK)
}

// drawn is a number that is likely to count, or any.
func drawn(chance *rand.Rand) int {
	switch chance.Intn(12) {
	case 0:
		return ends()[chance.Intn(len(ends()))]
	case 1:
		return int(chance.Uint64())
	}
	return chance.Intn(8)
}

func TestCallsByChance(t *testing.T) {
	chance := rand.New(rand.NewSource(8))
	for range 20000 {
		c := building(chance.Intn(8), chance.Intn(6))
		a := api.Call{}
		for k := range fields() {
			a = put(a, k, drawn(chance))
		}
		b := a
		for range chance.Intn(4) {
			b = put(b, chance.Intn(8), drawn(chance))
		}
		wantOfPair(t, c, a, b, drawn(chance), drawn(chance), drawn(chance))
	}
}

// wantOfPair holds all calls of the layer against the chapter's words.
func wantOfPair(t testing.TB, c api.Config, a, b api.Call, n, m, k int) {
	t.Helper()
	can := site.Check(c) == api.OK
	wantMay(t, c, a, b, goesOn(c, a, b))
	for _, x := range []api.Call{a, b, {Kind: a.Kind, From: a.From, To: a.To, Car: a.Car}} {
		wanted := api.OK
		switch {
		case !can:
			wanted = api.ErrRange
		case !asks(c, x):
			wanted = api.ErrArg
		}
		wantCheck(t, c, x, wanted)
		wantNew(t, c, x, n, m, k, wanted)
		wantSteps(t, c, x, n)
		if !Lives(x) && len(made(c, x)) != 0 {
			t.Fatalf("%+v goes on", x)
		}
	}
}

func wantNew(t testing.TB, c api.Config, x api.Call, id, owner, born int, wanted api.Errno) {
	t.Helper()
	y, err := New(c, x, id, owner, born)
	if wanted == api.OK && (id < 1 || owner < 1 || born < 0 || id > 1<<30 || owner > 1<<30 || born > 1<<30) {
		wanted = api.ErrArg
	}
	if wanted != api.OK {
		refused(t, "New", y, err, wanted)
		return
	}
	want(t, "New", y, err, api.Call{Id: id, Kind: x.Kind, From: x.From, To: x.To, Car: x.Car, State: 1, Owner: owner, Born: born}, api.OK)
}

// wantSteps asks that the steps with a car or a floor are refused as the chapter
// says, and lead on by a row else.
func wantSteps(t testing.TB, c api.Config, x api.Call, n int) {
	t.Helper()
	y, err := Assign(c, x, n)
	switch {
	case x.State != 1:
		refused(t, "Assign", y, err, api.ErrState)
	case !carOf(c, n) || x.Kind == 3 && x.Car != n:
		refused(t, "Assign", y, err, api.ErrArg)
	case err != api.OK || y.Car != n || !goesOn(c, x, y) || !May(c, x, y):
		t.Fatalf("Assign of %+v to %d = %+v, %d", x, n, y, err)
	}
	y, err = Leave(c, x, n)
	switch {
	case x.State != 2 && x.State != 3:
		refused(t, "Leave", y, err, api.ErrState)
	case !floorOf(c, n):
		refused(t, "Leave", y, err, api.ErrArg)
	case err != api.OK || !goesOn(c, x, y) || !May(c, x, y) || (y.State == 4) != (x.State == 3 && x.To == n) || x.State == 3 && y.State == 1 && y.From != n:
		t.Fatalf("Leave of %+v at %d = %+v, %d", x, n, y, err)
	}
}

func FuzzCall(f *testing.F) {
	f.Add(5, 4, 0, api.Trip, 2, 4, 0, 0, 0, 0, 1, 1, 0)
	f.Add(5, 4, 7, api.Trip, 2, 4, 3, api.Riding, 8, 9, 4, 1, 1)
	f.Add(5, 4, 7, api.Inside, 0, 5, 3, api.Pending, 8, 9, 3, 1<<30, 1<<30)
	f.Add(33, 0, -1, -1, math.MinInt, math.MaxInt, -1, 7, -1, -1, math.MinInt, 1<<30+1, -1)
	f.Fuzz(func(t *testing.T, floors, cars, id, kind, from, to, car, state, owner, born, n, m, k int) {
		x := api.Call{Id: id, Kind: kind, From: from, To: to, Car: car, State: state, Owner: owner, Born: born}
		wantOfPair(t, building(floors, cars), x, x, n, m, k)
		if site.Check(building(floors, cars)) != api.OK {
			return
		}
		for _, y := range made(building(floors, cars), x) {
			wantMay(t, building(floors, cars), x, y, true)
		}
	})
}

func FuzzMay(f *testing.F) {
	for _, p := range rows() {
		a, b := p[0], p[1]
		f.Add(a.Kind, a.From, a.To, a.Car, a.State, b.From, b.Car, b.State, uint8(0), 7)
	}
	f.Fuzz(func(t *testing.T, kind, from, to, car, state, nextFrom, nextCar, nextState int, at uint8, n int) {
		a := api.Call{Id: 7, Kind: kind, From: from, To: to, Car: car, State: state, Owner: 8, Born: 9}
		b := a
		b.From, b.Car, b.State = nextFrom, nextCar, nextState
		c := building(5, 4)
		wantMay(t, c, a, b, goesOn(c, a, b))
		b = put(b, int(at)%8, n)
		wantMay(t, c, a, b, goesOn(c, a, b))
	})
}
