package vault

import (
	"math"
	"math/rand"
	"slices"
	"testing"

	"hoistway/api"
	"hoistway/book"
	"hoistway/keys"
	"hoistway/site"
)

// building is one with that many cars and calls, else small.
func building(cars, calls int) api.Config {
	c := site.Small()
	c.Cars, c.Calls = cars, calls
	return c
}

// buildings are some that can be.
func buildings() []api.Config {
	return []api.Config{site.Small(), building(4, 1), building(2, 2), building(4, 64)}
}

// noBuildings can't be, most of them for a number that no vault has to do with.
func noBuildings() []api.Config {
	list := []api.Config{{}, building(0, 4), building(5, 4), building(1, 0), building(1, 65), {Secret: 7}}
	for _, name := range site.Names() {
		for _, n := range []int{-1, math.MinInt, math.MaxInt} {
			c, _ := site.Set(site.Small(), name, n)
			list = append(list, c)
		}
	}
	return list
}

// far are indexes that are none of a change here.
func far() []int {
	return []int{math.MinInt, math.MinInt + 1, math.MinInt32, -2, -1, 1 << 30, math.MaxInt32, 1 << 32, 1<<32 + 1, math.MaxInt - 1, math.MaxInt}
}

func up(from int) api.Call { return api.Call{Kind: api.Up, From: from} }

// deed is what is committed behind a snap.
type deed struct {
	snap   Snap
	book   book.Book
	change api.Change
	keys   keys.Keys
}

func (d deed) commit(v *Vault) api.Errno { return v.Commit(d.snap, d.book, d.change, d.keys) }

// placing is a call more, with its key, behind a snap.
func placing(t testing.TB, s Snap, from int) deed {
	t.Helper()
	b, x, err := s.Book.Place(up(from), 5, s.Now)
	if err != api.OK {
		t.Fatalf("Place = %d", err)
	}
	k, err := s.Keys.With(s.Now, 5, keys.Key(s.Now, x.Index), "body", "answer")
	if err != api.OK {
		t.Fatalf("With = %d", err)
	}
	return deed{s, b, x, k}
}

// setting is a car's mode, with the keys as they were, behind a snap.
func setting(t testing.TB, s Snap, car, mode int) deed {
	t.Helper()
	b, x, err := s.Book.Set(car, mode)
	if err != api.OK {
		t.Fatalf("Set = %d", err)
	}
	return deed{s, b, x, s.Keys}
}

// cancelling is a call less, with the keys as they were, behind a snap.
func cancelling(t testing.TB, s Snap, id int) deed {
	t.Helper()
	b, x, err := s.Book.Cancel(id, 5)
	if err != api.OK {
		t.Fatalf("Cancel of %d = %d", id, err)
	}
	return deed{s, b, x, s.Keys}
}

// done commits what has to be OK.
func done(t testing.TB, v *Vault, d deed) {
	t.Helper()
	if err := d.commit(v); err != api.OK {
		t.Fatalf("Commit of %+v = %d", d.change, err)
	}
}

// sets is a vault with that many changes, all of the mode of the car 1.
func sets(t testing.TB, changes int) *Vault {
	t.Helper()
	v := New(site.Small())
	for i := range changes {
		done(t, v, setting(t, v.Read(), 1, 1+i%2))
	}
	return v
}

// The chapter's words, written anew

// model is a vault that remembers all changes, and up to which one it forgot.
type model struct {
	snap    Snap
	changes []api.Change
	forgot  int
	commits int
	stale   int
}

func newModel(c api.Config) *model {
	return &model{snap: Snap{book.New(c), keys.Make(c), 0}}
}

func (m *model) commit(d deed) api.Errno {
	m.commits++
	if d.snap.Book.Index() != len(m.changes) {
		m.stale++
		return api.ErrStale
	}
	b, err := m.snap.Book.Apply(d.change)
	if err != api.OK || !book.Same(b, d.book) {
		return api.ErrArg
	}
	m.snap.Book, m.snap.Keys = b, d.keys
	m.changes = append(m.changes, d.change)
	return api.OK
}

func (m *model) since(index int) []api.Change {
	list := []api.Change{}
	for i, x := range m.changes {
		if i >= m.forgot && x.Index > index {
			list = append(list, x)
		}
	}
	return list
}

func (m *model) forget(index int) int {
	before := m.forgot
	for m.forgot < len(m.changes) && m.changes[m.forgot].Index <= index {
		m.forgot++
	}
	return m.forgot - before
}

// wantSnap holds two snaps against each other.
func wantSnap(t testing.TB, s, wanted Snap) {
	t.Helper()
	if !book.Same(s.Book, wanted.Book) || !keys.Equal(s.Keys, wanted.Keys) || s.Now != wanted.Now {
		t.Fatalf("a snap of %d, %d, %v, want %d, %d, %v", s.Book.Index(), s.Now, s.Book.Live(), wanted.Book.Index(), wanted.Now, wanted.Book.Live())
	}
}

// want holds all that a vault tells against a model.
func want(t testing.TB, v *Vault, m *model) {
	t.Helper()
	wantSnap(t, v.Read(), m.snap)
	kept := len(m.changes) - m.forgot
	if n := v.Kept(); n != kept {
		t.Fatalf("Kept() = %d, want %d", n, kept)
	}
	if n, stale := v.Tries(); n != m.commits || stale != m.stale {
		t.Fatalf("Tries() = %d, %d, want %d, %d", n, stale, m.commits, m.stale)
	}
	indexes := far()
	for i := range kept + 3 {
		indexes = append(indexes, m.forgot+i-1)
	}
	for _, index := range indexes {
		if list := v.Since(index); !slices.Equal(list, m.since(index)) {
			t.Fatalf("Since(%d) = %+v, want %+v", index, list, m.since(index))
		}
	}
	wantRising(t, v)
}

// wantRising: the indexes of what is kept rise by one, up to the book's.
func wantRising(t testing.TB, v *Vault) {
	t.Helper()
	last := v.Read().Book.Index()
	list := v.Since(math.MinInt)
	for i, x := range list {
		if x.Index != last-len(list)+1+i {
			t.Fatalf("the index %d at %d of %d, up to %d", x.Index, i, len(list), last)
		}
	}
}

// wantCommit is what a Commit is to answer, on a vault and on its model.
func wantCommit(t testing.TB, v *Vault, m *model, d deed, wanted api.Errno) {
	t.Helper()
	if err := d.commit(v); err != wanted {
		t.Fatalf("Commit of %+v at %d on a snap at %d = %d, want %d", d.change, len(m.changes), d.snap.Book.Index(), err, wanted)
	}
	if err := m.commit(d); err != wanted {
		t.Fatalf("the model's Commit of %+v = %d, want %d", d.change, err, wanted)
	}
	want(t, v, m)
}

// P11.1

func TestNew(t *testing.T) {
	for _, c := range buildings() {
		v := New(c)
		if v == nil {
			t.Fatalf("New(%+v) = nil", c)
		}
		want(t, v, newModel(c))
		if s := v.Read(); s.Book.Conf() != c || s.Book.Index() != 0 || s.Now != 0 || s.Keys.Count(0) != 0 {
			t.Fatalf("%+v", s)
		}
	}
}

func TestNewOfWhatCantBe(t *testing.T) {
	for _, c := range noBuildings() {
		if New(c) != nil {
			t.Fatalf("New(%+v) is one", c)
		}
	}
}

func TestNil(t *testing.T) {
	var v *Vault
	snaps := []Snap{{}, New(site.Small()).Read(), sets(t, 3).Read()}
	for _, s := range snaps {
		if err := v.Commit(s, s.Book, api.Change{}, s.Keys); err != api.ErrNil {
			t.Fatalf("Commit = %d", err)
		}
	}
	if err := placing(t, snaps[1], 1).commit(v); err != api.ErrNil {
		t.Fatalf("Commit = %d", err)
	}
	wantSnap(t, v.Read(), Snap{})
	n, stale := v.Tries()
	if v.Tick() || v.Kept() != 0 || n != 0 || stale != 0 {
		t.Fatal("a nil vault does something")
	}
	for _, index := range append(far(), 0, 1, 2) {
		if len(v.Since(index)) != 0 || v.Forget(index) != 0 {
			t.Fatalf("a nil vault keeps something behind %d", index)
		}
	}
}

func TestReadStaysAsItWas(t *testing.T) {
	v, m := New(building(2, 4)), newModel(building(2, 4))
	snaps, wanted := []Snap{}, []Snap{}
	for i := range 4 {
		wantCommit(t, v, m, placing(t, v.Read(), 1+i), api.OK)
		snaps, wanted = append(snaps, v.Read()), append(wanted, m.snap)
		v.Tick()
		m.snap.Now++
		snaps, wanted = append(snaps, v.Read()), append(wanted, m.snap)
	}
	v.Forget(2)
	for i, s := range snaps {
		wantSnap(t, s, wanted[i])
		if s.Book.Index() != 1+i/2 || s.Now != (i+1)/2 || s.Keys.Count(0) != 1+i/2 {
			t.Fatalf("the snap %d is of %d, %d, %d", i, s.Book.Index(), s.Now, s.Keys.Count(0))
		}
	}
}

// What is done to a snap isn't done to the vault.
func TestReadIsACopy(t *testing.T) {
	v, m := New(site.Small()), newModel(site.Small())
	wantCommit(t, v, m, placing(t, v.Read(), 1), api.OK)
	s := v.Read()
	s.Book, s.Keys, s.Now = book.Book{}, keys.Keys{}, 9
	want(t, v, m)
}

// P11.2: Commit

func TestCommit(t *testing.T) {
	for _, c := range buildings() {
		v, m := New(c), newModel(c)
		d := placing(t, v.Read(), 3)
		wantCommit(t, v, m, d, api.OK)
		wantSnap(t, v.Read(), Snap{d.book, d.keys, 0})
		if list := v.Since(0); !slices.Equal(list, []api.Change{d.change}) {
			t.Fatalf("Since(0) = %+v", list)
		}
		wantCommit(t, v, m, setting(t, v.Read(), c.Cars, 2), api.OK)
		wantCommit(t, v, m, setting(t, v.Read(), c.Cars, 2), api.OK)
		wantCommit(t, v, m, cancelling(t, v.Read(), 1), api.OK)
		if v.Kept() != 4 || v.Read().Keys.Count(0) != 1 || v.Read().Book.Mode(c.Cars) != 2 {
			t.Fatalf("%d are kept", v.Kept())
		}
	}
}

func TestCommitInTheExample(t *testing.T) {
	v, m := New(site.Small()), newModel(site.Small())
	first, second := placing(t, v.Read(), 1), placing(t, v.Read(), 2)
	wantCommit(t, v, m, first, api.OK)
	wantCommit(t, v, m, second, api.ErrStale)
	wantSnap(t, v.Read(), Snap{first.book, first.keys, 0})
	// Who reads anew is done.
	wantCommit(t, v, m, placing(t, v.Read(), 2), api.OK)
}

func TestCommitOfStale(t *testing.T) {
	v, m := New(site.Small()), newModel(site.Small())
	snaps := []Snap{v.Read()}
	for range 6 {
		wantCommit(t, v, m, setting(t, v.Read(), 1, 2), api.OK)
		snaps = append(snaps, v.Read())
	}
	for _, s := range snaps[:6] {
		wantCommit(t, v, m, setting(t, s, 1, 1), api.ErrStale)
		wantCommit(t, v, m, setting(t, s, 1, 2), api.ErrStale)
	}
	wantCommit(t, v, m, deed{}, api.ErrStale)
	// So is what is ahead of the vault, as another one's may be.
	wantCommit(t, v, m, setting(t, sets(t, 7).Read(), 1, 1), api.ErrStale)
	wantCommit(t, v, m, setting(t, sets(t, 70).Read(), 1, 1), api.ErrStale)
	wantCommit(t, v, m, setting(t, snaps[6], 1, 1), api.OK)
}

// That a snap is stale is told ahead of that the change is none.
func TestCommitOfStaleAheadOfWrong(t *testing.T) {
	v, m := New(site.Small()), newModel(site.Small())
	older := v.Read()
	wantCommit(t, v, m, placing(t, older, 1), api.OK)
	good := placing(t, v.Read(), 2)
	wantCommit(t, v, m, deed{older, good.book, good.change, good.keys}, api.ErrStale)
	wantCommit(t, v, m, deed{older, good.book, api.Change{}, good.keys}, api.ErrStale)
	wantCommit(t, v, m, deed{older, book.Book{}, good.change, keys.Keys{}}, api.ErrStale)
	wantCommit(t, v, m, deed{good.snap, book.Book{}, good.change, good.keys}, api.ErrArg)
}

// Of a snap the index of its book alone counts.
func TestCommitOfAnotherSnapOfThatIndex(t *testing.T) {
	v, m := sets(t, 2), newModel(site.Small())
	m.snap, m.changes, m.commits = v.Read(), v.Since(0), 2
	other := New(building(4, 64))
	done(t, other, setting(t, other.Read(), 4, 2))
	done(t, other, setting(t, other.Read(), 4, 2))
	d := setting(t, v.Read(), 1, 2)
	d.snap = Snap{Book: other.Read().Book, Now: -1}
	wantCommit(t, v, m, d, api.OK)
	d = setting(t, v.Read(), 1, 1)
	d.snap.Now, d.snap.Keys = 1<<30, keys.Keys{}
	wantCommit(t, v, m, d, api.OK)
	// The zero book has the index of a new one.
	v, m = New(site.Small()), newModel(site.Small())
	d = placing(t, v.Read(), 1)
	d.snap = Snap{}
	wantCommit(t, v, m, d, api.OK)
}

func TestCommitOfAnotherBook(t *testing.T) {
	v, m := New(building(2, 4)), newModel(building(2, 4))
	wantCommit(t, v, m, placing(t, v.Read(), 1), api.OK)
	s := v.Read()
	good := placing(t, s, 2)
	far := New(building(2, 64))
	done(t, far, placing(t, far.Read(), 1))
	for _, b := range []book.Book{
		{}, s.Book, book.New(s.Book.Conf()), placing(t, s, 3).book, setting(t, s, 1, 1).book, setting(t, s, 2, 2).book,
		cancelling(t, s, 1).book, placing(t, far.Read(), 2).book, sets(t, 2).Read().Book,
	} {
		wantCommit(t, v, m, deed{s, b, good.change, good.keys}, api.ErrArg)
	}
	wantCommit(t, v, m, good, api.OK)
}

func TestCommitOfAnotherChange(t *testing.T) {
	v, m := New(building(2, 4)), newModel(building(2, 4))
	wantCommit(t, v, m, placing(t, v.Read(), 1), api.OK)
	good := placing(t, v.Read(), 2)
	list := []api.Change{{}, m.changes[0], placing(t, good.snap, 3).change, cancelling(t, good.snap, 1).change, setting(t, good.snap, 1, 1).change}
	for _, n := range far() {
		x, y, z := good.change, good.change, good.change
		x.Index, y.Call.Id, z.Car = n, n, n
		list = append(list, x, y, z, api.Change{Index: n, Car: n, Mode: n})
	}
	for _, x := range list {
		wantCommit(t, v, m, deed{good.snap, good.book, x, good.keys}, api.ErrArg)
		// Apply's zero book beside its error is no book of the vault.
		if _, err := good.snap.Book.Apply(x); err != api.OK {
			wantCommit(t, v, m, deed{good.snap, book.Book{}, x, good.keys}, api.ErrArg)
		}
	}
	wantCommit(t, v, m, good, api.OK)
}

// Whatever Apply answers but OK, a Commit is ErrArg.
func TestCommitOfOneCallTooMany(t *testing.T) {
	v, m := New(building(1, 1)), newModel(building(1, 1))
	wantCommit(t, v, m, placing(t, v.Read(), 1), api.OK)
	s := v.Read()
	more := api.Change{Index: 2, Call: api.Call{Id: 2, Kind: api.Up, From: 1, State: api.Pending, Owner: 5}}
	if _, err := s.Book.Apply(more); err != api.ErrFull {
		t.Fatalf("Apply = %d", err)
	}
	wantCommit(t, v, m, deed{s, book.Book{}, more, s.Keys}, api.ErrArg)
	wantCommit(t, v, m, deed{s, s.Book, more, s.Keys}, api.ErrArg)
}

// A book is the same, in whatever way it was made.
func TestCommitOfABookMadeInAnotherWay(t *testing.T) {
	v, m := New(building(1, 4)), newModel(building(1, 4))
	wantCommit(t, v, m, placing(t, v.Read(), 1), api.OK)
	wantCommit(t, v, m, cancelling(t, v.Read(), 1), api.OK)
	other := New(building(1, 4))
	done(t, other, placing(t, other.Read(), 1))
	done(t, other, setting(t, other.Read(), 1, 1))
	late := cancelling(t, other.Read(), 1)
	d := setting(t, v.Read(), 1, 1)
	d.book = late.book
	wantCommit(t, v, m, d, api.OK)
	for i := range 6 {
		wantCommit(t, v, m, placing(t, Snap{v.Read().Book, keys.Make(building(1, 4)), 0}, 1), api.OK)
		wantCommit(t, v, m, cancelling(t, v.Read(), 4+2*i), api.OK)
	}
}

// Which keys there are is for who commits to say.
func TestCommitOfAnyKeys(t *testing.T) {
	v, m := New(site.Small()), newModel(site.Small())
	d := placing(t, v.Read(), 1)
	some := d.keys
	for _, k := range []keys.Keys{some, keys.Make(building(4, 64)), {}, some, d.snap.Keys} {
		d := setting(t, v.Read(), 1, 2)
		d.keys = k
		wantCommit(t, v, m, d, api.OK)
		if !keys.Equal(v.Read().Keys, k) {
			t.Fatal("other keys")
		}
	}
}

// P11.2: Tick

func TestTick(t *testing.T) {
	v, m := New(site.Small()), newModel(site.Small())
	for i := range 100 {
		if i%10 == 3 {
			wantCommit(t, v, m, setting(t, v.Read(), 1, 2), api.OK)
		}
		if !v.Tick() {
			t.Fatal("no tick more")
		}
		m.snap.Now = i + 1
		want(t, v, m)
	}
}

func TestTickIsNoReasonToBeStale(t *testing.T) {
	v, m := New(site.Small()), newModel(site.Small())
	d := placing(t, v.Read(), 1)
	for range 50 {
		v.Tick()
	}
	m.snap.Now = 50
	// The call was born at the tick that was read, and the vault's tick stays.
	wantCommit(t, v, m, d, api.OK)
	if x, _ := v.Read().Book.Find(1); x.Born != 0 || v.Read().Now != 50 {
		t.Fatalf("%+v at %d", x, v.Read().Now)
	}
}

func TestTickTillTheLast(t *testing.T) {
	v, m := New(site.Small()), newModel(site.Small())
	// The ticks up to there take too long to be made one by one.
	v.snap.Now, m.snap.Now = 1<<30-2, 1<<30-2
	for range 2 {
		m.snap.Now++
		if !v.Tick() {
			t.Fatalf("no tick at %d", m.snap.Now)
		}
		want(t, v, m)
	}
	for range 3 {
		if v.Tick() {
			t.Fatal("a tick more")
		}
		want(t, v, m)
	}
	wantCommit(t, v, m, placing(t, v.Read(), 1), api.OK)
}

// P11.3

func TestSince(t *testing.T) {
	v := sets(t, 5)
	for index := -1; index <= 6; index++ {
		wanted := []int{}
		for i := max(1, index+1); i <= 5; i++ {
			wanted = append(wanted, i)
		}
		got := []int{}
		for _, x := range v.Since(index) {
			got = append(got, x.Index)
			if x != (api.Change{Index: x.Index, Car: 1, Mode: 2 - x.Index%2}) {
				t.Fatalf("%+v", x)
			}
		}
		if !slices.Equal(got, wanted) {
			t.Fatalf("Since(%d) is %v, want %v", index, got, wanted)
		}
	}
	if len(v.Since(math.MinInt)) != 5 || len(v.Since(math.MaxInt)) != 0 {
		t.Fatal("the ends")
	}
}

func TestSinceIsNewMemory(t *testing.T) {
	for forgot := range 4 {
		v := sets(t, 3)
		v.Forget(forgot)
		wanted := v.Since(0)
		for index := range 4 {
			list := v.Since(index)
			list = list[:cap(list)]
			for i := range list {
				list[i] = api.Change{Index: -1}
			}
		}
		if !slices.Equal(v.Since(0), wanted) {
			t.Fatal("what was handed out is the vault's")
		}
		done(t, v, setting(t, v.Read(), 1, 2))
		v.Forget(3)
		if list := v.Since(0); len(list) != 1 || list[0].Index != 4 {
			t.Fatalf("%+v", list)
		}
	}
}

// What was handed out stays, whatever the vault keeps later.
func TestSinceStays(t *testing.T) {
	v := sets(t, 4)
	list := v.Since(1)
	wanted := slices.Clone(list)
	v.Forget(3)
	for range 10 {
		done(t, v, setting(t, v.Read(), 1, 1))
		v.Forget(v.Read().Book.Index() - 2)
	}
	if !slices.Equal(list, wanted) {
		t.Fatalf("%+v, want %+v", list, wanted)
	}
}

// wantForget is how many are to be let go, on a vault and on its model.
func wantForget(t testing.TB, v *Vault, m *model, index, wanted int) {
	t.Helper()
	n := v.Forget(index)
	if n != wanted || n != m.forget(index) {
		t.Fatalf("Forget(%d) = %d, want %d", index, n, wanted)
	}
	want(t, v, m)
}

func TestForget(t *testing.T) {
	for index := -1; index <= 7; index++ {
		v, m := New(site.Small()), newModel(site.Small())
		for range 5 {
			wantCommit(t, v, m, setting(t, v.Read(), 1, 2), api.OK)
		}
		wantForget(t, v, m, index, min(max(0, index), 5))
		wantForget(t, v, m, index, 0)
		wantCommit(t, v, m, setting(t, v.Read(), 1, 1), api.OK)
		wantForget(t, v, m, 3, max(0, 3-max(0, index)))
		wantForget(t, v, m, 6, 6-min(max(3, index), 5))
		wantForget(t, v, m, 6, 0)
	}
}

func TestForgetOfAnyIndex(t *testing.T) {
	for _, index := range far() {
		v, m := New(site.Small()), newModel(site.Small())
		wantForget(t, v, m, index, 0)
		wantForget(t, v, m, 0, 0)
		for range 3 {
			wantCommit(t, v, m, setting(t, v.Read(), 1, 2), api.OK)
		}
		wanted := 0
		if index > 0 {
			wanted = 3
		}
		wantForget(t, v, m, index, wanted)
	}
}

// Who forgets is not stale, and an older snap is so all the same.
func TestForgetIsNoChange(t *testing.T) {
	v, m := New(site.Small()), newModel(site.Small())
	older := v.Read()
	wantCommit(t, v, m, setting(t, v.Read(), 1, 2), api.OK)
	d := setting(t, v.Read(), 1, 1)
	wantForget(t, v, m, 1, 1)
	wantCommit(t, v, m, setting(t, older, 1, 1), api.ErrStale)
	wantCommit(t, v, m, d, api.OK)
	if v.Kept() != 1 || v.Since(0)[0].Index != 2 {
		t.Fatalf("%+v are kept", v.Since(0))
	}
}

func TestForgetOneByOne(t *testing.T) {
	v := sets(t, 100000)
	for i := range 100000 {
		if v.Forget(i+1) != 1 || v.Kept() != 99999-i {
			t.Fatalf("%d are kept behind %d", v.Kept(), i+1)
		}
	}
}

func TestTries(t *testing.T) {
	v := New(site.Small())
	older := v.Read()
	for i := range 5 {
		done(t, v, setting(t, v.Read(), 1, 1))
		setting(t, older, 1, 2).commit(v)
		v.Commit(v.Read(), book.Book{}, api.Change{}, keys.Keys{})
		if n, stale := v.Tries(); n != 3*i+3 || stale != i+1 {
			t.Fatalf("Tries() = %d, %d", n, stale)
		}
	}
	v.Read()
	v.Since(0)
	v.Forget(9)
	v.Tick()
	if n, stale := v.Tries(); n != 15 || stale != 5 {
		t.Fatalf("Tries() = %d, %d", n, stale)
	}
}

// P11.4

// Of those that read at one index the first one is done, and no other one.
func TestOneOfThoseThatReadAtOnce(t *testing.T) {
	v, m := New(building(2, 64)), newModel(building(2, 64))
	for round := range 8 {
		deeds := []deed{}
		for i := range 5 {
			s := v.Read()
			deeds = append(deeds, placing(t, Snap{s.Book, keys.Make(building(2, 64)), s.Now}, 1+i%4), setting(t, s, 1+i%2, 2))
			v.Tick()
			m.snap.Now++
		}
		for i := range deeds {
			wanted := api.ErrStale
			if i == 0 {
				wanted = api.OK
			}
			wantCommit(t, v, m, deeds[(i+round)%len(deeds)], wanted)
		}
	}
}

// So in whatever order two who do two things each come.
func TestOneOfThoseThatReadAtOnceInAllOrders(t *testing.T) {
	for order := range 1 << 8 {
		v, m := New(site.Small()), newModel(site.Small())
		var snaps [2]Snap
		var isRead [2]bool
		last := map[int]int{}
		for bit := range 8 {
			who := order >> bit & 1
			if !isRead[who] {
				snaps[who], isRead[who] = v.Read(), true
				continue
			}
			isRead[who] = false
			d := setting(t, snaps[who], 1, 1+who)
			wanted := api.OK
			if snaps[who].Book.Index() != len(m.changes) {
				wanted = api.ErrStale
			} else {
				last[snaps[who].Book.Index()]++
			}
			wantCommit(t, v, m, d, wanted)
		}
		for index, n := range last {
			if n != 1 {
				t.Fatalf("%d were done at %d", n, index)
			}
		}
	}
}

// Vaults by chance

// dice are numbers out of bytes; 0, when there are no more.
type dice struct{ bytes []byte }

func (d *dice) roll(n int) int {
	if len(d.bytes) == 0 {
		return 0
	}
	b := int(d.bytes[0])
	d.bytes = d.bytes[1:]
	return b % n
}

// some is a number from -1 on, or, seldom, one that is far.
func (d *dice) some(n int) int {
	if d.roll(24) == 23 {
		return far()[d.roll(len(far()))]
	}
	return d.roll(n+2) - 1
}

// run is deeds out of bytes, by several who read, on a vault and on a model.
type run struct {
	t     testing.TB
	dice  *dice
	vault *Vault
	model *model
	snaps [4]Snap
	done  map[int]bool // the indexes at which those read who were done
	seen  map[api.Errno]int
}

// deed is what could be committed behind a snap, most times.
func (r *run) deed(s Snap) deed {
	d := deed{snap: s, keys: s.Keys}
	switch r.dice.roll(3) {
	case 0:
		d.book, d.change, _ = s.Book.Place(up(r.dice.some(5)), 5, s.Now)
		key := keys.Key(s.Now, r.dice.roll(8))
		if k, err := s.Keys.With(s.Now, 5, key, "body", "answer"); err == api.OK {
			d.keys = k
		}
	case 1:
		d.book, d.change, _ = s.Book.Cancel(r.dice.some(s.Book.Index()), 5)
	default:
		d.book, d.change, _ = s.Book.Set(r.dice.some(4), r.dice.some(3))
	}
	switch r.dice.roll(12) {
	case 0:
		d.change.Index = r.dice.some(s.Book.Index() + 2)
	case 1:
		d.book = r.snaps[r.dice.roll(len(r.snaps))].Book
	case 2:
		d.snap = r.snaps[r.dice.roll(len(r.snaps))]
	}
	return d
}

// step does one deed, and holds both against each other.
func (r *run) step() {
	r.t.Helper()
	who := r.dice.roll(len(r.snaps))
	switch r.dice.roll(8) {
	case 0, 1, 2:
		r.snaps[who] = r.vault.Read()
	case 3:
		isMore := r.vault.Tick()
		r.model.snap.Now++
		if !isMore {
			r.t.Fatal("no tick more")
		}
	case 4:
		index := r.dice.some(len(r.model.changes))
		wanted := r.model.forget(index)
		if n := r.vault.Forget(index); n != wanted {
			r.t.Fatalf("Forget(%d) = %d, want %d", index, n, wanted)
		}
	default:
		r.commit(r.deed(r.snaps[who]))
	}
	want(r.t, r.vault, r.model)
}

func (r *run) commit(d deed) {
	r.t.Helper()
	wanted := r.model.commit(d)
	if err := d.commit(r.vault); err != wanted {
		r.t.Fatalf("Commit of %+v = %d, want %d", d.change, err, wanted)
	}
	r.seen[wanted]++
	index := d.snap.Book.Index()
	if wanted == api.OK && r.done[index] {
		r.t.Fatalf("two were done at %d", index)
	}
	r.done[index] = r.done[index] || wanted == api.OK
}

// runOf plays bytes to their end.
func runOf(t testing.TB, c api.Config, bytes []byte) *run {
	t.Helper()
	r := &run{t: t, dice: &dice{bytes}, vault: New(c), model: newModel(c), done: map[int]bool{}, seen: map[api.Errno]int{}}
	for len(r.dice.bytes) > 0 {
		r.step()
	}
	r.wantReplayed(c)
	return r
}

// wantReplayed: the changes that were done, one behind the other, make the book.
func (r *run) wantReplayed(c api.Config) {
	r.t.Helper()
	b := book.New(c)
	for _, x := range r.model.changes {
		b, _ = b.Apply(x)
	}
	if !book.Same(b, r.vault.Read().Book) {
		r.t.Fatal("another book")
	}
}

func TestVaultsByChance(t *testing.T) {
	source := rand.New(rand.NewSource(11))
	seen := map[api.Errno]int{}
	for i := range 40 {
		bytes := make([]byte, 2000)
		source.Read(bytes)
		for err, n := range runOf(t, buildings()[i%len(buildings())], bytes).seen {
			seen[err] += n
		}
	}
	for _, err := range []api.Errno{api.OK, api.ErrStale, api.ErrArg} {
		if seen[err] < 100 {
			t.Fatalf("only %d Commits were %d", seen[err], err)
		}
	}
}

func FuzzVault(f *testing.F) {
	f.Add(0, []byte{})
	f.Add(1, []byte("0123456789"))
	f.Add(2, []byte{0, 0, 0, 5, 0, 1, 2, 7, 1, 0, 1, 5, 2, 2, 2, 2, 9, 0, 4, 1, 1})
	f.Add(3, []byte{0, 0, 1, 0, 0, 5, 2, 0, 2, 0, 2, 5, 1, 5, 2, 0, 2, 0, 1, 5, 0, 3, 0, 4, 0, 2})
	f.Fuzz(func(t *testing.T, which int, bytes []byte) {
		runOf(t, buildings()[uint(which)%uint(len(buildings()))], bytes[:min(len(bytes), 600)])
	})
}

func FuzzCommit(f *testing.F) {
	f.Add(1, 2, 2, 1, 2, 0, 0, 1, 5, 0, 0, 0)
	f.Add(1, 2, 1, 1, 1, 0, 0, 5, 5, 0, 0, 0)
	f.Add(0, 2, 0, 0, 0, 0, 0, 0, 0, 0, 2, 2)
	f.Add(2, 2, 0, 0, 0, 0, 0, 0, 0, 0, 1, 1)
	f.Fuzz(func(t *testing.T, at, index, id, kind, from, to, car, state, owner, born, setCar, mode int) {
		v, m := New(building(2, 2)), newModel(building(2, 2))
		snaps := []Snap{v.Read()}
		for _, from := range []int{1, 3} {
			d := placing(t, v.Read(), from)
			wantCommit(t, v, m, d, api.OK)
			snaps = append(snaps, v.Read())
		}
		wantCommit(t, v, m, cancelling(t, v.Read(), 2), api.OK)
		snaps = append(snaps, v.Read())
		x := api.Change{Index: index, Car: setCar, Mode: mode}
		x.Call = api.Call{Id: id, Kind: kind, From: from, To: to, Car: car, State: state, Owner: owner, Born: born}
		s := snaps[uint(at)%uint(len(snaps))]
		b, _ := s.Book.Apply(x)
		for _, d := range []deed{{s, s.Book, x, s.Keys}, {s, book.Book{}, x, s.Keys}, {s, b, x, s.Keys}} {
			wantCommit(t, v, m, d, m.verdict(d))
		}
		// What was done isn't so any more.
		wantCommit(t, v, m, deed{s, b, x, s.Keys}, m.verdict(deed{s, b, x, s.Keys}))
	})
}

// verdict is what a Commit is to answer; the model stays as it was.
func (m *model) verdict(d deed) api.Errno {
	was := *m
	was.changes = slices.Clone(m.changes)
	return was.commit(d)
}
