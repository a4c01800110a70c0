package clock_test

import (
	"math"
	"slices"
	"testing"

	"tailrace/api"
	"tailrace/clock"
)

// fresh is a new clock of n places.
func fresh(t *testing.T, n int) *clock.Clock {
	t.Helper()
	c, e := clock.New(n)
	if e != api.OK || c == nil {
		t.Fatalf("New(%d): %v, %d", n, c, e)
	}
	return c
}

// told asks for an error's number.
func told(t *testing.T, call string, e, want api.Errno) {
	t.Helper()
	if e != want {
		t.Errorf("%s: %d, not %d", call, e, want)
	}
}

// goes asks for the places that go, one behind another.
func goes(t *testing.T, c *clock.Clock, want ...int) {
	t.Helper()
	for k, w := range want {
		if i, e := c.Victim(); i != w || e != api.OK {
			t.Errorf("Victim number %d: %d, %d, not %d", k, i, e, w)
		}
	}
}

// noneGoes asks that all places are pinned.
func noneGoes(t *testing.T, c *clock.Clock) {
	t.Helper()
	if i, e := c.Victim(); i != 0 || e != api.ErrPinned {
		t.Errorf("Victim of pinned places: %d, %d", i, e)
	}
}

// use, pin and unpin must be done.
func use(t *testing.T, c *clock.Clock, places ...int) {
	t.Helper()
	for _, i := range places {
		told(t, "Use", c.Use(i), api.OK)
	}
}

func pin(t *testing.T, c *clock.Clock, places ...int) {
	t.Helper()
	for _, i := range places {
		told(t, "Pin", c.Pin(i), api.OK)
	}
}

func unpin(t *testing.T, c *clock.Clock, places ...int) {
	t.Helper()
	for _, i := range places {
		told(t, "Unpin", c.Unpin(i), api.OK)
	}
}

// used makes a list of so many places, of which some were used.
func used(n int, places ...int) []bool {
	l := make([]bool, n)
	for _, i := range places {
		l[i] = true
	}
	return l
}

// all are the places of a clock of n.
func all(n int) []int {
	l := make([]int, n)
	for i := range l {
		l[i] = i
	}
	return l
}

// stands asks for all that a clock tells.
func stands(t *testing.T, c *clock.Clock, pins []int, used []bool, hand int) {
	t.Helper()
	if p := c.Pins(); !slices.Equal(p, pins) {
		t.Errorf("Pins: %v, not %v", p, pins)
	}
	if u := c.Used(); !slices.Equal(u, used) {
		t.Errorf("Used: %v, not %v", u, used)
	}
	if h := c.Hand(); h != hand {
		t.Errorf("Hand: %d, not %d", h, hand)
	}
}

// noPlaces are numbers that are no place's of a clock of n.
func noPlaces(n int) []int {
	return []int{-1, -2, -n, -n - 1, math.MinInt32, math.MinInt, n, n + 1, 2 * n, 5000, 1 << 32, math.MaxInt32, math.MaxInt}
}

// The chapter's examples.
func TestExamples(t *testing.T) {
	c := fresh(t, 3)
	goes(t, c, 0, 1)

	c = fresh(t, 3)
	use(t, c, 0)
	pin(t, c, 1)
	goes(t, c, 2)
	stands(t, c, []int{0, 1, 0}, used(3), 0)

	c = fresh(t, 3)
	pin(t, c, 0, 1, 2)
	noneGoes(t, c)
	told(t, "Unpin(1)", c.Unpin(1), api.OK)
	told(t, "Unpin(1) again", c.Unpin(1), api.ErrArg)
}

// P6.1
func TestNewOfPlacesThatMayBe(t *testing.T) {
	for _, n := range []int{1, 2, 3, 4, 63, 64, 999, 1000} {
		c := fresh(t, n)
		stands(t, c, make([]int, n), used(n), 0)
		goes(t, c, all(n)...)
		stands(t, c, make([]int, n), used(n), 0)
		for _, i := range []int{0, n - 1} {
			use(t, c, i)
			pin(t, c, i)
			unpin(t, c, i)
		}
		for _, i := range []int{-1, n} {
			told(t, "Use beside the places", c.Use(i), api.ErrArg)
		}
	}
}

// P6.1
func TestNewOfPlacesThatMayNotBe(t *testing.T) {
	for _, n := range []int{0, -1, -2, -1000, math.MinInt32, math.MinInt, 1001, 1002, 4096, 1 << 32, 1<<32 + 3, math.MaxInt32, math.MaxInt} {
		if c, e := clock.New(n); c != nil || e != api.ErrArg {
			t.Errorf("New(%d): %v, %d", n, c, e)
		}
	}
}

// R5: a clock does not hang on what another one was told.
func TestClocksAreApart(t *testing.T) {
	a, b := fresh(t, 3), fresh(t, 3)
	use(t, a, 0, 1)
	pin(t, a, 0)
	goes(t, a, 2)
	use(t, a, 1, 2)
	stands(t, b, []int{0, 0, 0}, used(3), 0)
	goes(t, b, 0, 1)
	stands(t, a, []int{1, 0, 0}, used(3, 0, 1, 2), 0)
	stands(t, b, []int{0, 0, 0}, used(3), 2)
}

// P6.2: each place is one of its own.
func TestUsePinUnpinOfEachPlace(t *testing.T) {
	for _, n := range []int{1, 2, 3, 7, 1000} {
		for _, i := range []int{0, n / 2, n - 1} {
			pins := make([]int, n)
			c := fresh(t, n)
			use(t, c, i)
			stands(t, c, pins, used(n, i), 0)
			pin(t, c, i)
			pins[i] = 1
			stands(t, c, pins, used(n, i), 0)
			unpin(t, c, i)
			pins[i] = 0
			stands(t, c, pins, used(n, i), 0)

			c = fresh(t, n)
			pin(t, c, i)
			pins[i] = 1
			stands(t, c, pins, used(n), 0)
		}
	}
}

// P6.2: R3 too: what is refused changes nothing.
func TestCallsBesideThePlaces(t *testing.T) {
	for _, n := range []int{1, 2, 3, 1000} {
		c := fresh(t, n)
		use(t, c, n-1)
		pin(t, c, n-1)
		pins := make([]int, n)
		pins[n-1] = 1
		if n > 1 {
			goes(t, c, 0)
		}
		hand := min(1, n-1)
		for _, i := range noPlaces(n) {
			told(t, "Use beside the places", c.Use(i), api.ErrArg)
			told(t, "Pin beside the places", c.Pin(i), api.ErrArg)
			told(t, "Unpin beside the places", c.Unpin(i), api.ErrArg)
			stands(t, c, pins, used(n, n-1), hand)
		}
	}
}

// P6.2
func TestUseOfAPlaceAgain(t *testing.T) {
	c := fresh(t, 3)
	use(t, c, 1, 1, 1)
	stands(t, c, []int{0, 0, 0}, used(3, 1), 0)
	// However often it was used, it has one second chance.
	goes(t, c, 0, 2, 0, 1)
	stands(t, c, []int{0, 0, 0}, used(3), 2)
}

// P6.2: pins are counted.
func TestPlaceThatIsPinnedTwice(t *testing.T) {
	c := fresh(t, 2)
	pin(t, c, 1, 1)
	stands(t, c, []int{0, 2}, used(2), 0)
	goes(t, c, 0, 0)
	unpin(t, c, 1)
	stands(t, c, []int{0, 1}, used(2), 1)
	goes(t, c, 0, 0)
	unpin(t, c, 1)
	stands(t, c, []int{0, 0}, used(2), 1)
	for range 3 {
		told(t, "Unpin of what is not pinned", c.Unpin(1), api.ErrArg)
		stands(t, c, []int{0, 0}, used(2), 1)
	}
	goes(t, c, 1, 0, 1)
	pin(t, c, 1)
	stands(t, c, []int{0, 1}, used(2), 0)
}

// P6.2
func TestPlaceThatIsPinnedOften(t *testing.T) {
	const often = 70000
	c := fresh(t, 2)
	for range often {
		pin(t, c, 0)
	}
	stands(t, c, []int{often, 0}, used(2), 0)
	for k := range often {
		if k%1000 == 0 {
			goes(t, c, 1)
		}
		unpin(t, c, 0)
	}
	stands(t, c, []int{0, 0}, used(2), 0)
	told(t, "Unpin once more", c.Unpin(0), api.ErrArg)
}

// P6.2: R3: a place that is not pinned, whatever else it is.
func TestUnpinOfWhatIsNotPinned(t *testing.T) {
	c := fresh(t, 3)
	use(t, c, 1)
	pin(t, c, 2)
	goes(t, c, 0)
	for _, i := range []int{0, 1} {
		told(t, "Unpin of what is not pinned", c.Unpin(i), api.ErrArg)
		stands(t, c, []int{0, 0, 1}, used(3, 1), 1)
	}
	pin(t, c, 0)
	stands(t, c, []int{1, 0, 1}, used(3, 1), 1)
}

// P6.3: the place that goes is not used by that, and the hand goes round.
func TestVictimWithNoPlaceUsed(t *testing.T) {
	c := fresh(t, 3)
	for round := range 4 {
		for i := range 3 {
			if h := c.Hand(); h != i {
				t.Errorf("round %d: Hand: %d, not %d", round, h, i)
			}
			goes(t, c, i)
			stands(t, c, []int{0, 0, 0}, used(3), (i+1)%3)
		}
	}
}

// P6.3: just those that the hand goes over lose their use.
func TestVictimWithSomeUsed(t *testing.T) {
	c := fresh(t, 5)
	use(t, c, 0, 1, 3, 4)
	goes(t, c, 2)
	stands(t, c, make([]int, 5), used(5, 3, 4), 3)
	use(t, c, 0)
	goes(t, c, 1)
	stands(t, c, make([]int, 5), used(5), 2)
	use(t, c, 0, 1, 2, 3)
	goes(t, c, 4)
	stands(t, c, make([]int, 5), used(5, 0, 1), 0)
}

// P6.3: behind a round in which each loses its use the first one goes.
func TestVictimWithAllUsed(t *testing.T) {
	for _, n := range []int{1, 2, 3, 1000} {
		for _, start := range []int{0, n / 2, n - 1} {
			c := fresh(t, n)
			goes(t, c, all(start)...)
			use(t, c, all(n)...)
			stands(t, c, make([]int, n), used(n, all(n)...), start)
			goes(t, c, start)
			stands(t, c, make([]int, n), used(n), (start+1)%n)
		}
	}
}

// P6.3: what is pinned is gone over, and its use stays.
func TestVictimWithSomePinned(t *testing.T) {
	c := fresh(t, 4)
	use(t, c, 0, 1, 2)
	pin(t, c, 1, 3)
	goes(t, c, 0)
	stands(t, c, []int{0, 1, 0, 1}, used(4, 1), 1)
	goes(t, c, 2, 0, 2)
	stands(t, c, []int{0, 1, 0, 1}, used(4, 1), 3)
}

// P6.3: the one that is left goes again and again, used or not.
func TestVictimWithAllButOnePinned(t *testing.T) {
	for _, n := range []int{2, 3, 1000} {
		for _, left := range []int{0, n / 2, n - 1} {
			c := fresh(t, n)
			use(t, c, all(n)...)
			pins := make([]int, n)
			for i := range n {
				if i != left {
					pin(t, c, i)
					pins[i] = 1
				}
			}
			stay := used(n, all(n)...)
			stay[left] = false
			goes(t, c, left)
			stands(t, c, pins, stay, (left+1)%n)
			goes(t, c, left, left)
			use(t, c, left)
			goes(t, c, left)
			stands(t, c, pins, stay, (left+1)%n)
		}
	}
}

// P6.3: R2, R3 too: nothing is done.
func TestVictimWithAllPinned(t *testing.T) {
	for _, n := range []int{1, 2, 3, 1000} {
		for _, start := range []int{0, n / 2, n - 1} {
			c := fresh(t, n)
			goes(t, c, all(start)...)
			pins := make([]int, n)
			for i := range n {
				pin(t, c, i)
				pins[i] = 1
			}
			pin(t, c, 0)
			pins[0] = 2
			stay := used(n, 0, n/2)
			use(t, c, 0, n/2)
			for range 3 {
				noneGoes(t, c)
				stands(t, c, pins, stay, start)
			}
		}
	}
}

// P6.3: one pin less counts only where it was the last one.
func TestVictimBehindAllPinned(t *testing.T) {
	c := fresh(t, 3)
	pin(t, c, 0, 1, 1, 2)
	noneGoes(t, c)
	unpin(t, c, 1)
	noneGoes(t, c)
	unpin(t, c, 1)
	goes(t, c, 1, 1)
	stands(t, c, []int{1, 0, 1}, used(3), 2)
	pin(t, c, 1)
	noneGoes(t, c)
	stands(t, c, []int{1, 1, 1}, used(3), 2)
	unpin(t, c, 0)
	goes(t, c, 0)
}

// P6.3: a clock of one place.
func TestVictimOfOnePlace(t *testing.T) {
	c := fresh(t, 1)
	goes(t, c, 0, 0)
	use(t, c, 0)
	stands(t, c, []int{0}, []bool{true}, 0)
	goes(t, c, 0)
	stands(t, c, []int{0}, []bool{false}, 0)
	use(t, c, 0)
	pin(t, c, 0)
	noneGoes(t, c)
	stands(t, c, []int{1}, []bool{true}, 0)
	unpin(t, c, 0)
	goes(t, c, 0)
	stands(t, c, []int{0}, []bool{false}, 0)
}

// P6.3: a place that was used and is pinned has its second chance when it is unpinned.
func TestVictimOfWhatWasUsedAndPinned(t *testing.T) {
	c := fresh(t, 3)
	use(t, c, 0)
	pin(t, c, 0)
	goes(t, c, 1, 2, 1)
	stands(t, c, []int{1, 0, 0}, used(3, 0), 2)
	unpin(t, c, 0)
	stands(t, c, []int{0, 0, 0}, used(3, 0), 2)
	goes(t, c, 2, 1, 2, 0)
	stands(t, c, []int{0, 0, 0}, used(3), 1)
}

// P6.3: pins and uses move no hand, and take no use away.
func TestOnlyVictimMovesTheHand(t *testing.T) {
	c := fresh(t, 3)
	goes(t, c, 0, 1)
	use(t, c, 0, 1, 2)
	pin(t, c, 0, 1, 2)
	unpin(t, c, 0, 1, 2)
	stands(t, c, []int{0, 0, 0}, used(3, 0, 1, 2), 2)
	goes(t, c, 2)
	stands(t, c, []int{0, 0, 0}, used(3), 0)
}

// P6.3: behind the last place the hand is at the first one, over pinned places and used ones too.
func TestHandBehindTheLastPlace(t *testing.T) {
	c := fresh(t, 4)
	goes(t, c, 0, 1, 2)
	stands(t, c, []int{0, 0, 0, 0}, used(4), 3)
	pin(t, c, 3)
	goes(t, c, 0)
	stands(t, c, []int{0, 0, 0, 1}, used(4), 1)
	unpin(t, c, 3)
	use(t, c, 1, 2, 3)
	goes(t, c, 0)
	stands(t, c, []int{0, 0, 0, 0}, used(4), 1)
	goes(t, c, 1, 2, 3)
	stands(t, c, []int{0, 0, 0, 0}, used(4), 0)
}

// P6.4, R4: what was answered is new memory.
func TestWhatIsAnsweredMayBeChanged(t *testing.T) {
	c := fresh(t, 3)
	use(t, c, 0)
	pin(t, c, 1)
	p, u := c.Pins(), c.Used()
	for _, l := range [][]int{p[:cap(p)], c.Pins()} {
		for i := range l {
			l[i] = 9
		}
	}
	for i := range u[:cap(u)] {
		u[:cap(u)][i] = true
	}
	stands(t, c, []int{0, 1, 0}, used(3, 0), 0)
	goes(t, c, 2)
	stands(t, c, []int{0, 1, 0}, used(3), 0)

	// And it stays as it was.
	p, u = c.Pins(), c.Used()
	use(t, c, 0, 1, 2)
	pin(t, c, 0, 1, 2)
	if !slices.Equal(p, []int{0, 1, 0}) || !slices.Equal(u, used(3)) {
		t.Errorf("what was answered changes: %v, %v", p, u)
	}
}

// P6.4: telling changes nothing, and tells the same again.
func TestTellingAgain(t *testing.T) {
	c := fresh(t, 3)
	use(t, c, 0, 2)
	pin(t, c, 2, 2)
	goes(t, c, 1)
	for range 3 {
		stands(t, c, []int{0, 0, 2}, used(3, 2), 2)
	}
}

// answersArg asks that each call of a clock that has no places is refused.
func answersArg(t *testing.T, c *clock.Clock) {
	t.Helper()
	for _, i := range append(noPlaces(1), 0, 1) {
		told(t, "Use", c.Use(i), api.ErrArg)
		told(t, "Pin", c.Pin(i), api.ErrArg)
		told(t, "Unpin", c.Unpin(i), api.ErrArg)
	}
	stands(t, c, nil, nil, 0)
}

// R1
func TestNilClock(t *testing.T) {
	var c *clock.Clock
	for range 2 {
		answersArg(t, c)
		if i, e := c.Victim(); i != 0 || e != api.ErrArg {
			t.Errorf("Victim of a nil clock: %d, %d", i, e)
		}
	}
}

// R1: a clock that New did not make has no places, so none that is not pinned.
func TestClockThatNewDidNotMake(t *testing.T) {
	for _, c := range []*clock.Clock{{}, new(clock.Clock)} {
		for range 2 {
			answersArg(t, c)
			noneGoes(t, c)
		}
	}
}

// model is a clock as P6.2 and P6.3 say it, word by word.
type model struct {
	pins []int
	used []bool
	hand int
}

func newModel(n int) *model { return &model{pins: make([]int, n), used: make([]bool, n)} }

func (m *model) victim() (int, api.Errno) {
	if slices.Min(m.pins) > 0 {
		return 0, api.ErrPinned
	}
	for {
		i := m.hand
		if m.hand++; m.hand == len(m.pins) {
			m.hand = 0
		}
		if m.pins[i] == 0 && !m.used[i] {
			return i, api.OK
		}
		if m.pins[i] == 0 {
			m.used[i] = false
		}
	}
}

// free tells of which places, used or not, none is pinned.
func (m *model) free(used bool) []int {
	var l []int
	for i, p := range m.pins {
		if p == 0 && m.used[i] == used {
			l = append(l, i)
		}
	}
	return l
}

// step does one of the calls on both, and holds the answers against each other.
func step(t *testing.T, c *clock.Clock, m *model, call, i int) {
	t.Helper()
	switch call {
	case 0:
		told(t, "Use", c.Use(i), api.OK)
		m.used[i] = true
	case 1:
		told(t, "Pin", c.Pin(i), api.OK)
		m.pins[i]++
	case 2:
		want := api.OK
		if m.pins[i] == 0 {
			want = api.ErrArg
		} else {
			m.pins[i]--
		}
		told(t, "Unpin", c.Unpin(i), want)
	default:
		chosen(t, c, m)
	}
}

// chosen asks both for the place that goes; P6.5 of it too.
func chosen(t *testing.T, c *clock.Clock, m *model) {
	t.Helper()
	unused, second := m.free(false), m.free(true)
	i, e := c.Victim()
	if w, x := m.victim(); i != w || e != x {
		t.Errorf("Victim: %d, %d, not %d, %d", i, e, w, x)
	}
	switch {
	case e != api.OK:
		if len(unused)+len(second) > 0 {
			t.Errorf("Victim: %d, but %v and %v are not pinned", e, unused, second)
		}
	case len(unused) > 0 && !slices.Contains(unused, i):
		t.Errorf("Victim: %d goes ahead of %v", i, unused)
	case len(unused) == 0 && !slices.Contains(second, i):
		t.Errorf("Victim: %d is pinned", i)
	}
}

// P6.2, P6.3, P6.5: all short scripts of calls.
func TestAllShortScripts(t *testing.T) {
	const places, calls, steps = 2, 7, 6
	total := 1
	for range steps {
		total *= calls
	}
	for script := range total {
		c, m := fresh(t, places), newModel(places)
		for s, rest := 0, script; s < steps; s, rest = s+1, rest/calls {
			step(t, c, m, rest%calls/places, rest%calls%places)
		}
		stands(t, c, m.pins, m.used, m.hand)
		if t.Failed() {
			t.Fatalf("script %d", script)
		}
	}
}

// P6.2, P6.3, P6.4, P6.5: long scripts of calls, the kinds of calls more often or less.
func TestLongScripts(t *testing.T) {
	mixes := [][]int{{0, 1, 2, 3}, {0, 0, 0, 3, 3}, {0, 1, 1, 1, 2, 2, 3}, {0, 1, 2, 2, 2, 3, 3, 3}}
	for k, n := range []int{1, 2, 3, 5, 8, 64, 1000} {
		for l, mix := range mixes {
			c, m := fresh(t, n), newModel(n)
			seed := uint32(1 + 31*k + l)
			next := func(below int) int {
				seed = seed*1664525 + 1013904223
				return int(seed>>8) % below
			}
			for s := range 4000 {
				step(t, c, m, mix[next(len(mix))], next(n))
				if s%50 == 0 {
					stands(t, c, m.pins, m.used, m.hand)
				}
				if t.Failed() {
					t.Fatalf("%d places, mix %d, step %d", n, l, s)
				}
			}
			stands(t, c, m.pins, m.used, m.hand)
		}
	}
}
