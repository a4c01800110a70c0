package disk_test

import (
	"bytes"
	"math"
	"slices"
	"strings"
	"testing"

	"tailrace/api"
	"tailrace/disk"
)

// fresh is a new disk of n sectors.
func fresh(t *testing.T, n int) *disk.Disk {
	t.Helper()
	d, e := disk.New(n)
	if e != api.OK || d == nil {
		t.Fatalf("New(%d): %v, %d", n, d, e)
	}
	return d
}

// told asks for an error's number.
func told(t *testing.T, call string, e, want api.Errno) {
	t.Helper()
	if e != want {
		t.Errorf("%s: %d, not %d", call, e, want)
	}
}

// lay writes a text, which must be done.
func lay(t *testing.T, d *disk.Disk, n int, s string) {
	t.Helper()
	told(t, "Write", d.Write(n, []byte(s)), api.OK)
}

// lasting writes a text and flushes.
func lasting(t *testing.T, d *disk.Disk, n int, s string) {
	t.Helper()
	lay(t, d, n, s)
	told(t, "Flush", d.Flush(), api.OK)
}

// holds asks what a sector is read as.
func holds(t *testing.T, d *disk.Disk, n int, want string) {
	t.Helper()
	if b, e := d.Read(n); string(b) != want || e != api.OK {
		t.Errorf("Read(%d): %q, %d, not %q", n, b, e, want)
	}
}

// held makes a list of sectors and texts.
func held(parts ...any) []api.Held {
	var l []api.Held
	for i := 0; i < len(parts); i += 2 {
		l = append(l, api.Held{Sector: parts[i].(int), Data: []byte(parts[i+1].(string))})
	}
	return l
}

func sameHeld(a, b []api.Held) bool {
	return slices.EqualFunc(a, b, func(x, y api.Held) bool { return x.Sector == y.Sector && bytes.Equal(x.Data, y.Data) })
}

// stands asks for all that lasts, and all that waits.
func stands(t *testing.T, d *disk.Disk, lasts, waits []api.Held) {
	t.Helper()
	if l := d.Lasts(); !sameHeld(l, lasts) {
		t.Errorf("Lasts: %v, not %v", l, lasts)
	}
	if l := d.Waits(); !sameHeld(l, waits) {
		t.Errorf("Waits: %v, not %v", l, waits)
	}
}

// cut lets the power of a disk go, by a fuse of 0 and a flush.
func cut(t *testing.T, d *disk.Disk) {
	t.Helper()
	d.Fuse(0)
	told(t, "Flush with a fuse of 0", d.Flush(), api.ErrDown)
	if !d.Down() {
		t.Fatal("the power is there behind a fuse of 0 and an act")
	}
}

// noSectors are numbers that are no sector's of a disk of so many.
func noSectors(size int) []int {
	return []int{-1, -2, -size, math.MinInt, math.MinInt32, size, size + 1, 2 * size, api.MaxSectors, math.MaxInt32, math.MaxInt}
}

// P4.1
func TestNewOfSizesThatMayBe(t *testing.T) {
	for _, n := range []int{2, 3, 4, 63, 64, 1000, 4095, 4096} {
		d := fresh(t, n)
		if s := d.Size(); s != n {
			t.Errorf("Size of New(%d): %d", n, s)
		}
		for i := range n {
			holds(t, d, i, "")
		}
		for _, i := range []int{-1, n} {
			if b, e := d.Read(i); len(b) != 0 || e != api.ErrDisk {
				t.Errorf("Read(%d) of New(%d): %q, %d", i, n, b, e)
			}
		}
		if d.Down() {
			t.Errorf("New(%d) is without power", n)
		}
		stands(t, d, nil, nil)
	}
}

// P4.1
func TestNewOfSizesThatMayNotBe(t *testing.T) {
	for _, n := range []int{1, 0, -1, -2, -4096, math.MinInt32, math.MinInt, 4097, 4098, 8192, 1 << 32, 1<<32 + 2, math.MaxInt32, math.MaxInt} {
		if d, e := disk.New(n); d != nil || e != api.ErrArg {
			t.Errorf("New(%d): %v, %d", n, d, e)
		}
	}
}

// P4.1: no fuse is there, however many acts are done, and the size stays.
func TestNewDiskHasNoFuse(t *testing.T) {
	d := fresh(t, 2)
	for i := range 5000 {
		told(t, "Write", d.Write(i%2, []byte("a")), api.OK)
		told(t, "Flush", d.Flush(), api.OK)
	}
	if d.Down() || d.Size() != 2 {
		t.Errorf("Down, Size: %v, %d", d.Down(), d.Size())
	}
}

// R5: a disk does not hang on what another one was told.
func TestDisksAreApart(t *testing.T) {
	a, b := fresh(t, 4), fresh(t, 4)
	lasting(t, a, 1, "a")
	lay(t, a, 2, "w")
	stands(t, b, nil, nil)
	cut(t, a)
	if b.Down() {
		t.Error("one disk's power goes with another one's")
	}
	lay(t, b, 1, "b")
	b.Restart(nil)
	stands(t, a, held(1, "a"), held(2, "w"))
}

// P4.2
func TestWriteAndReadOfSectors(t *testing.T) {
	for _, size := range []int{2, 4, 4096} {
		d := fresh(t, size)
		for _, n := range []int{0, size - 1} {
			lay(t, d, n, "old")
			lay(t, d, n, "new")
			holds(t, d, n, "new")
		}
		for _, n := range noSectors(size) {
			if b, e := d.Read(n); len(b) != 0 || e != api.ErrDisk {
				t.Errorf("Read(%d) of %d sectors: %q, %d", n, size, b, e)
			}
			told(t, "Write beside the sectors", d.Write(n, []byte("x")), api.ErrDisk)
			told(t, "Write of no bytes beside the sectors", d.Write(n, nil), api.ErrDisk)
		}
		stands(t, d, nil, held(0, "new", size-1, "new"))
	}
}

// P4.2: each sector is one of its own.
func TestSectorsAreApart(t *testing.T) {
	d := fresh(t, 64)
	for n := range 64 {
		lay(t, d, n, strings.Repeat("s", n)+"!")
	}
	for n := range 64 {
		holds(t, d, n, strings.Repeat("s", n)+"!")
	}
}

// P4.2: R2 too: the sector and the bytes are one error; what is refused changes nothing.
func TestWriteOfSoManyBytes(t *testing.T) {
	d := fresh(t, 4)
	for _, n := range []int{1, 2, 1000, 1001, 1023, 1024} {
		b := bytes.Repeat([]byte{byte(n), 0, 255}, n)[:n]
		told(t, "Write", d.Write(1, b), api.OK)
		holds(t, d, 1, string(b))
	}
	lay(t, d, 1, "stays")
	for _, n := range []int{1025, 1026, 2048, 1 << 20} {
		told(t, "Write of too many bytes", d.Write(1, make([]byte, n)), api.ErrDisk)
		told(t, "Write of too many bytes beside the sectors", d.Write(9, make([]byte, n)), api.ErrDisk)
	}
	// The bytes count, not the room behind them.
	told(t, "Write of bytes with much room", d.Write(2, make([]byte, 1024, 5000)), api.OK)
	stands(t, d, nil, held(1, "stays", 2, string(make([]byte, 1024))))
}

// P4.2, P4.6
func TestWriteOfNoBytes(t *testing.T) {
	for _, none := range [][]byte{nil, {}, make([]byte, 0, 9)} {
		d := fresh(t, 4)
		told(t, "Write of no bytes", d.Write(3, none), api.OK)
		holds(t, d, 3, "")
		stands(t, d, nil, held(3, ""))

		lasting(t, d, 1, "lasts")
		stands(t, d, held(1, "lasts"), nil)
		told(t, "Write of no bytes", d.Write(1, none), api.OK)
		holds(t, d, 1, "")
		stands(t, d, held(1, "lasts"), held(1, ""))
		d.Restart([]int{0, 2})
		holds(t, d, 1, "lasts")

		told(t, "Write of no bytes", d.Write(1, none), api.OK)
		told(t, "Flush", d.Flush(), api.OK)
		holds(t, d, 1, "")
		stands(t, d, nil, nil)
	}
}

// P4.2
func TestReadIsWhatWaitsAheadOfWhatLasts(t *testing.T) {
	d := fresh(t, 4)
	lay(t, d, 1, "first")
	holds(t, d, 1, "first")
	told(t, "Flush", d.Flush(), api.OK)
	holds(t, d, 1, "first")
	lay(t, d, 1, "second, longer")
	holds(t, d, 1, "second, longer")
	lay(t, d, 1, "3rd")
	holds(t, d, 1, "3rd")
	stands(t, d, held(1, "first"), held(1, "3rd"))
	for range 3 {
		holds(t, d, 1, "3rd")
	}
	stands(t, d, held(1, "first"), held(1, "3rd"))
}

// P4.2
func TestFlushMakesAllLast(t *testing.T) {
	d := fresh(t, 4)
	told(t, "Flush of nothing", d.Flush(), api.OK)
	stands(t, d, nil, nil)
	lay(t, d, 3, "c")
	lay(t, d, 0, "a")
	told(t, "Flush", d.Flush(), api.OK)
	stands(t, d, held(0, "a", 3, "c"), nil)
	lay(t, d, 1, "b")
	lay(t, d, 0, "aa")
	lay(t, d, 3, "")
	told(t, "Flush", d.Flush(), api.OK)
	stands(t, d, held(0, "aa", 1, "b"), nil)
	told(t, "Flush again", d.Flush(), api.OK)
	stands(t, d, held(0, "aa", 1, "b"), nil)
	d.Restart(nil)
	stands(t, d, held(0, "aa", 1, "b"), nil)
}

// P4.3
func TestFuseOfSoManyActs(t *testing.T) {
	for _, k := range []int{0, 1, 2, 3, 7, 50} {
		d := fresh(t, 64)
		lasting(t, d, 63, "ahead")
		d.Fuse(k)
		if d.Down() {
			t.Errorf("Fuse(%d) lets the power go by itself", k)
		}
		for i := range k {
			told(t, "an act ahead of the fuse's end", d.Write(i, []byte("w")), api.OK)
			if d.Down() {
				t.Errorf("a fuse of %d: the power is gone behind %d acts", k, i+1)
			}
		}
		told(t, "the act at the fuse's end", d.Write(62, []byte("x")), api.ErrDown)
		if !d.Down() {
			t.Errorf("a fuse of %d: the power is there behind an act more", k)
		}
		if w := d.Waits(); len(w) != k {
			t.Errorf("a fuse of %d: %d sectors wait", k, len(w))
		}
		stands(t, d, held(63, "ahead"), d.Waits())
	}
}

// P4.3: a flush is an act like a write, also where nothing waits; at the fuse's end it is not done.
func TestFlushIsAnAct(t *testing.T) {
	d := fresh(t, 4)
	d.Fuse(3)
	told(t, "Flush of nothing", d.Flush(), api.OK)
	lay(t, d, 1, "a")
	told(t, "Flush", d.Flush(), api.OK)
	stands(t, d, held(1, "a"), nil)
	told(t, "Flush at the fuse's end", d.Flush(), api.ErrDown)
	if !d.Down() {
		t.Error("the power is there")
	}

	d = fresh(t, 4)
	d.Fuse(1)
	lay(t, d, 1, "a")
	told(t, "Flush at the fuse's end", d.Flush(), api.ErrDown)
	stands(t, d, nil, held(1, "a"))
}

// P4.3: a write at the fuse's end leaves what waits there.
func TestWriteAtTheFusesEndIsNotDone(t *testing.T) {
	d := fresh(t, 4)
	lasting(t, d, 1, "lasts")
	lay(t, d, 1, "waits")
	d.Fuse(0)
	told(t, "Write with a fuse of 0", d.Write(1, []byte("new")), api.ErrDown)
	stands(t, d, held(1, "lasts"), held(1, "waits"))
	d.Restart([]int{1})
	holds(t, d, 1, "waits")
}

// P4.3
func TestFuseBelowZeroIsNone(t *testing.T) {
	for _, k := range []int{-1, -2, -1000, math.MinInt} {
		for _, was := range []int{-1, 0, 1, 5} {
			d := fresh(t, 4)
			d.Fuse(was)
			d.Fuse(k)
			for range 100 {
				told(t, "Write without a fuse", d.Write(1, nil), api.OK)
				told(t, "Flush without a fuse", d.Flush(), api.OK)
			}
			if d.Down() {
				t.Errorf("Fuse(%d) behind Fuse(%d): the power is gone", k, was)
			}
		}
	}
}

// P4.3: the last fuse counts, whatever is left of the one ahead.
func TestFuseOverAnother(t *testing.T) {
	for _, was := range []int{0, 1, 3, math.MaxInt} {
		for _, k := range []int{0, 1, 3} {
			d := fresh(t, 4)
			d.Fuse(was)
			if was > 1 {
				lay(t, d, 0, "burns")
			}
			d.Fuse(k)
			for range k {
				lay(t, d, 1, "a")
			}
			told(t, "the act at the last fuse's end", d.Flush(), api.ErrDown)
		}
	}
}

// P4.3: what is refused, and what is no act, burns nothing and lets no power go.
func TestOnlyActsBurnTheFuse(t *testing.T) {
	for _, k := range []int{0, 1, 2} {
		d := fresh(t, 4)
		lay(t, d, 1, "a")
		d.Fuse(k)
		for range 3 {
			told(t, "Write beside the sectors", d.Write(4, []byte("x")), api.ErrDisk)
			told(t, "Write beside the sectors", d.Write(-1, nil), api.ErrDisk)
			told(t, "Write of too many bytes", d.Write(1, make([]byte, 1025)), api.ErrDisk)
			if _, e := d.Read(4); e != api.ErrDisk {
				t.Errorf("Read(4): %d", e)
			}
			holds(t, d, 1, "a")
			told(t, "Turn", d.Turn(1, 0, 0), api.OK)
			told(t, "Turn of no bytes", d.Turn(2, 0, 0), api.ErrArg)
			told(t, "Turn beside the sectors", d.Turn(4, 0, 0), api.ErrDisk)
			d.Size()
			stands(t, d, nil, held(1, "a"))
			if d.Down() {
				t.Fatalf("a fuse of %d: the power is gone without an act", k)
			}
		}
		for range k {
			lay(t, d, 1, "a")
		}
		told(t, "the act at the fuse's end", d.Write(1, []byte("b")), api.ErrDown)
	}
}

// P4.2, P4.3, R2: without power ErrDown is ahead of ErrDisk, and nothing changes.
func TestCallsWithoutPower(t *testing.T) {
	d := fresh(t, 4)
	lasting(t, d, 1, "lasts")
	lay(t, d, 2, "waits")
	cut(t, d)
	for range 3 {
		for _, n := range append(noSectors(4), 0, 1, 2, 3) {
			if b, e := d.Read(n); len(b) != 0 || e != api.ErrDown {
				t.Errorf("Read(%d) without power: %q, %d", n, b, e)
			}
			told(t, "Write without power", d.Write(n, []byte("x")), api.ErrDown)
			told(t, "Write of too many bytes without power", d.Write(n, make([]byte, 1025)), api.ErrDown)
		}
		told(t, "Flush without power", d.Flush(), api.ErrDown)
		if d.Size() != 4 || !d.Down() {
			t.Errorf("Size, Down without power: %d, %v", d.Size(), d.Down())
		}
		stands(t, d, held(1, "lasts"), held(2, "waits"))
	}
}

// P4.3: a fuse gives no power back, and none that is laid without power is there behind a restart.
func TestFuseWithoutPower(t *testing.T) {
	for _, k := range []int{-1, 0, 1, 9} {
		d := fresh(t, 4)
		cut(t, d)
		d.Fuse(k)
		if !d.Down() {
			t.Errorf("Fuse(%d) gives power back", k)
		}
		told(t, "Write without power", d.Write(1, nil), api.ErrDown)
		told(t, "Flush without power", d.Flush(), api.ErrDown)
		d.Restart(nil)
		for range 20 {
			lay(t, d, 1, "a")
		}
	}
}

// P4.4
func TestRestartKeepsSome(t *testing.T) {
	for _, c := range []struct {
		name string
		keep []int
		want []api.Held
	}{
		{"nil", nil, held(1, "L", 2, "M", 4, "N")},
		{"none", []int{}, held(1, "L", 2, "M", 4, "N")},
		{"one over what lasts", []int{1}, held(1, "w", 2, "M", 4, "N")},
		{"one over nothing", []int{3}, held(1, "L", 2, "M", 3, "x", 4, "N")},
		{"one of no bytes over what lasts", []int{2}, held(1, "L", 4, "N")},
		{"one of no bytes over nothing", []int{5}, held(1, "L", 2, "M", 4, "N")},
		{"one where nothing waits", []int{4}, held(1, "L", 2, "M", 4, "N")},
		{"one that holds nothing", []int{0}, held(1, "L", 2, "M", 4, "N")},
		{"named twice", []int{3, 1, 3, 1, 1}, held(1, "w", 2, "M", 3, "x", 4, "N")},
		{"of no bytes, named twice", []int{2, 2}, held(1, "L", 4, "N")},
		{"not there", []int{-1, 8, 4096, math.MinInt, math.MaxInt}, held(1, "L", 2, "M", 4, "N")},
		{"not there, among others", []int{8, 1, -1, 9, 2, math.MinInt}, held(1, "w", 4, "N")},
		{"all", []int{0, 1, 2, 3, 4, 5, 6, 7}, held(1, "w", 3, "x", 4, "N")},
		{"all, falling", []int{7, 6, 5, 4, 3, 2, 1, 0}, held(1, "w", 3, "x", 4, "N")},
	} {
		for _, power := range []bool{true, false} {
			d := fresh(t, 8)
			lay(t, d, 1, "L")
			lay(t, d, 2, "M")
			lasting(t, d, 4, "N")
			lay(t, d, 1, "w")
			lay(t, d, 2, "")
			lay(t, d, 3, "x")
			lay(t, d, 5, "")
			if !power {
				cut(t, d)
			}
			keep := slices.Clone(c.keep)
			d.Restart(keep)
			if d.Down() {
				t.Errorf("%s: no power behind Restart", c.name)
			}
			if l, w := d.Lasts(), d.Waits(); !sameHeld(l, c.want) || len(w) != 0 {
				t.Errorf("%s: lasts %v, not %v; waits %v", c.name, l, c.want, w)
			}
			for _, h := range c.want {
				holds(t, d, h.Sector, string(h.Data))
			}
			if !slices.Equal(keep, c.keep) {
				t.Errorf("%s: keep is %d", c.name, keep)
			}
		}
	}
}

// P4.4: whatever was left of the fuse.
func TestRestartTakesTheFuse(t *testing.T) {
	for _, k := range []int{0, 1, 2, 5} {
		d := fresh(t, 4)
		d.Fuse(k)
		d.Restart(nil)
		for range 20 {
			lasting(t, d, 1, "a")
		}
		cut(t, d)
		d.Restart([]int{1})
		for range 20 {
			lasting(t, d, 1, "b")
		}
	}
}

// P4.4: what is gone does not come back at a later restart or flush.
func TestWhatIsGoneStaysGone(t *testing.T) {
	d := fresh(t, 4)
	lay(t, d, 1, "a")
	lay(t, d, 2, "b")
	d.Restart([]int{2})
	d.Restart([]int{1, 2})
	told(t, "Flush", d.Flush(), api.OK)
	stands(t, d, held(2, "b"), nil)
	holds(t, d, 1, "")
}

// P4.5
func TestTurnOfEachPlace(t *testing.T) {
	for _, size := range []int{1, 2, 5, 1024} {
		for _, at := range []int{0, 1, size / 2, size - 1, size, size + 1, 2*size - 1, 3*size + 2, math.MaxInt32, math.MaxInt} {
			for _, by := range []byte{0, 1, 3, 128, 255} {
				d := fresh(t, 4)
				was := bytes.Repeat([]byte{7, 77, 200}, size)[:size]
				told(t, "Write", d.Write(1, was), api.OK)
				told(t, "Turn", d.Turn(1, at, by), api.OK)
				want := bytes.Clone(was)
				want[at%size] ^= by
				holds(t, d, 1, string(want))
				told(t, "Turn back", d.Turn(1, at, by), api.OK)
				holds(t, d, 1, string(was))
			}
		}
	}
}

// P4.5: by each byte, exclusive or, not a sum.
func TestTurnByEachByte(t *testing.T) {
	d := fresh(t, 2)
	for c := range 256 {
		for by := range 256 {
			told(t, "Write", d.Write(1, []byte{9, byte(c), 9}), api.OK)
			told(t, "Turn", d.Turn(1, 1, byte(by)), api.OK)
			holds(t, d, 1, string([]byte{9, byte(c ^ by), 9}))
		}
	}
}

// P4.5, P4.6: where something waits it alone is turned; what lasts stays, and the other way round.
func TestTurnOfWhatWaitsAndOfWhatLasts(t *testing.T) {
	d := fresh(t, 4)
	lasting(t, d, 1, "abc")
	lasting(t, d, 2, "abc")
	told(t, "Turn of what lasts", d.Turn(1, 0, 1), api.OK)
	stands(t, d, held(1, "`bc", 2, "abc"), nil)
	lay(t, d, 1, "abc")
	told(t, "Turn of what waits", d.Turn(1, 4, 3), api.OK)
	stands(t, d, held(1, "`bc", 2, "abc"), held(1, "aac"))
	holds(t, d, 1, "aac")
	d.Restart(nil)
	holds(t, d, 1, "`bc")

	// What waited, was turned and is flushed lasts as turned, and waits no more.
	lay(t, d, 1, "xyz")
	told(t, "Turn of what waits", d.Turn(1, 2, 1), api.OK)
	told(t, "Flush", d.Flush(), api.OK)
	stands(t, d, held(1, "xy{", 2, "abc"), nil)
	told(t, "Turn of what lasts", d.Turn(1, 2, 1), api.OK)
	stands(t, d, held(1, "xyz", 2, "abc"), nil)
	lay(t, d, 1, "q")
	told(t, "Turn of what waits", d.Turn(1, 0, 1), api.OK)
	d.Restart([]int{1})
	stands(t, d, held(1, "p", 2, "abc"), nil)
}

// P4.5, R2
func TestTurnThatIsRefused(t *testing.T) {
	for _, power := range []bool{true, false} {
		d := fresh(t, 4)
		lay(t, d, 1, "one")
		lasting(t, d, 2, "two")
		lay(t, d, 2, "")
		if !power {
			cut(t, d)
		}
		for _, n := range noSectors(4) {
			for _, at := range []int{0, 1, -1, math.MinInt} {
				told(t, "Turn beside the sectors", d.Turn(n, at, 1), api.ErrDisk)
			}
		}
		for _, at := range []int{0, 1, -1, math.MaxInt, math.MinInt} {
			told(t, "Turn of a sector that holds nothing", d.Turn(0, at, 1), api.ErrArg)
			told(t, "Turn of no bytes that wait over what lasts", d.Turn(2, at, 1), api.ErrArg)
		}
		for _, at := range []int{-1, -2, -3, -4, math.MinInt} {
			for _, by := range []byte{0, 1} {
				told(t, "Turn at a place below 0", d.Turn(1, at, by), api.ErrArg)
			}
		}
		stands(t, d, held(1, "one", 2, "two"), held(2, ""))
		if d.Down() == power {
			t.Errorf("Turn changes the power, which was %v", power)
		}
	}
}

// P4.5
func TestTurnWithoutPower(t *testing.T) {
	d := fresh(t, 4)
	lay(t, d, 1, "a")
	lasting(t, d, 2, "b")
	lay(t, d, 1, "aa")
	cut(t, d)
	told(t, "Turn of what waits", d.Turn(1, 1, 2), api.OK)
	told(t, "Turn of what lasts", d.Turn(2, 1, 2), api.OK)
	if !d.Down() {
		t.Error("Turn gives power back")
	}
	stands(t, d, held(1, "a", 2, "`"), held(1, "ac"))
	d.Restart([]int{1})
	stands(t, d, held(1, "ac", 2, "`"), nil)
}

// P4.6: by Sector, whatever the order they were written in.
func TestLastsAndWaitsByTheirSectors(t *testing.T) {
	d := fresh(t, 4096)
	var lasts, waits []api.Held
	for i := range 100 {
		n := (i*37 + 11) % 100 * 40
		lay(t, d, n, strings.Repeat("l", n%7+1))
		lasts = append(lasts, api.Held{Sector: n, Data: bytes.Repeat([]byte("l"), n%7+1)})
	}
	told(t, "Flush", d.Flush(), api.OK)
	for i := range 100 {
		n := (i*53+7)%100*40 + i%2
		lay(t, d, n, strings.Repeat("w", n%5))
		waits = append(waits, api.Held{Sector: n, Data: bytes.Repeat([]byte("w"), n%5)})
	}
	bySector := func(a, b api.Held) int { return a.Sector - b.Sector }
	slices.SortFunc(lasts, bySector)
	slices.SortFunc(waits, bySector)
	for range 5 {
		stands(t, d, lasts, waits)
	}
}

// P4.6
func TestLastsAndWaitsOfNoneOfSomeAndOfNoBytes(t *testing.T) {
	d := fresh(t, 4)
	stands(t, d, nil, nil)
	lay(t, d, 3, "")
	lay(t, d, 0, "")
	stands(t, d, nil, held(0, "", 3, ""))
	told(t, "Flush", d.Flush(), api.OK)
	stands(t, d, nil, nil)
	lay(t, d, 3, "c")
	lay(t, d, 0, "a")
	stands(t, d, nil, held(0, "a", 3, "c"))
	told(t, "Flush", d.Flush(), api.OK)
	lay(t, d, 0, "")
	lay(t, d, 2, "b")
	lay(t, d, 1, "")
	stands(t, d, held(0, "a", 3, "c"), held(0, "", 1, "", 2, "b"))
	d.Restart([]int{0, 1})
	stands(t, d, held(3, "c"), nil)
}

// P4.2, R4: what was handed in may be changed afterwards, its spare room too.
func TestWhatIsHandedInIsNotKept(t *testing.T) {
	d := fresh(t, 4)
	room := []byte("dataspare")
	b := room[:4]
	told(t, "Write", d.Write(1, b), api.OK)
	told(t, "Write of the same", d.Write(2, b), api.OK)
	told(t, "Turn", d.Turn(1, 0, 1), api.OK)
	if string(room) != "dataspare" {
		t.Errorf("what was handed in is %q", room)
	}
	clear(room)
	holds(t, d, 1, "eata")
	holds(t, d, 2, "data")
	told(t, "Flush", d.Flush(), api.OK)
	holds(t, d, 2, "data")
	keep := []int{1, 2, 3}
	lay(t, d, 2, "new")
	d.Restart(keep[:2])
	clear(keep)
	stands(t, d, held(1, "eata", 2, "new"), nil)
}

// P4.2, P4.6, R4: what was answered may be changed afterwards, its spare room too.
func TestWhatIsAnsweredIsNewMemory(t *testing.T) {
	spoil := func(b []byte) {
		b = b[:cap(b)]
		for i := range b {
			b[i] = 'X'
		}
	}
	for _, size := range []int{1, 5, 33, 1000, 1024} {
		d := fresh(t, 4)
		s := strings.Repeat("s", size)
		lasting(t, d, 1, s)
		lay(t, d, 2, s)
		for range 2 {
			for n := range 4 {
				b, _ := d.Read(n)
				other, _ := d.Read(n)
				was := string(other)
				spoil(b)
				if string(other) != was {
					t.Errorf("two answers of Read(%d) share memory", n)
				}
				_ = append(other, 'Y')
			}
			for _, l := range [][]api.Held{d.Lasts(), d.Waits()} {
				for _, h := range l {
					spoil(h.Data)
				}
				clear(l[:cap(l)])
			}
			stands(t, d, held(1, s), held(2, s))
			holds(t, d, 1, s)
			holds(t, d, 2, s)
		}
	}
}

// R4: none of an answer's lists shares memory with another one of it.
func TestListsOfOneAnswerShareNone(t *testing.T) {
	d := fresh(t, 8)
	for n := range 8 {
		lay(t, d, n, "abc")
	}
	told(t, "Flush", d.Flush(), api.OK)
	for n := range 8 {
		lay(t, d, n, "abc")
	}
	for _, l := range [][]api.Held{d.Lasts(), d.Waits()} {
		for i := range l {
			b := l[i].Data[:cap(l[i].Data)]
			for j := range b {
				b[j] = 'X'
			}
			for _, h := range l[i+1:] {
				if string(h.Data) != "abc" {
					t.Fatalf("the lists of the sectors %d and %d share memory", l[i].Sector, h.Sector)
				}
			}
		}
	}
}

// P4.7: over each place where the power goes, and each choice of what is kept.
func TestWhatWasFlushedIsThereBehindAnyCrash(t *testing.T) {
	// Each act is a sector's write, or a flush (sector -1).
	acts := []struct {
		n int
		s string
	}{
		{0, "a"}, {1, "b"}, {-1, ""}, {1, "c"}, {2, "d"}, {1, "e"}, {-1, ""}, {0, ""}, {2, "f"}, {3, ""}, {3, "g"}, {-1, ""}, {1, ""}, {0, "h"},
	}
	for fuse := range len(acts) + 1 {
		for choice := range 16 {
			d := fresh(t, 4)
			d.Fuse(fuse)
			var flushed, since [4]string
			var wrote [4]bool
			for i, a := range acts {
				var e api.Errno
				if a.n < 0 {
					e = d.Flush()
				} else {
					e = d.Write(a.n, []byte(a.s))
				}
				if (e == api.OK) != (i < fuse) {
					t.Fatalf("a fuse of %d, the act %d: %d", fuse, i, e)
				}
				switch {
				case e != api.OK:
				case a.n < 0:
					for n := range 4 {
						if wrote[n] {
							flushed[n], wrote[n] = since[n], false
						}
					}
				default:
					since[a.n], wrote[a.n] = a.s, true
				}
			}
			var keep []int
			for n := range 4 {
				if choice>>n&1 == 1 {
					keep = append(keep, n)
				}
			}
			d.Restart(keep)
			for n := range 4 {
				want := flushed[n]
				if wrote[n] && choice>>n&1 == 1 {
					want = since[n]
				}
				holds(t, d, n, want)
			}
		}
	}
}

// model is the chapter's words, of a few sectors, without maps.
type model struct {
	lasts [6]string
	waits [6]string
	is    [6]bool
	down  bool
	fuse  int
}

func (m *model) act() bool {
	if m.fuse == 0 {
		m.down = true
		return false
	}
	if m.fuse > 0 {
		m.fuse--
	}
	return true
}

func (m *model) restart(keep []int) {
	for n := range m.is {
		if m.is[n] && slices.Contains(keep, n) {
			m.lasts[n] = m.waits[n]
		}
		m.is[n] = false
	}
	m.down, m.fuse = false, -1
}

func (m *model) write(n int, s string) api.Errno {
	switch {
	case m.down:
		return api.ErrDown
	case n < 0 || n >= len(m.is) || len(s) > 1024:
		return api.ErrDisk
	case !m.act():
		return api.ErrDown
	}
	m.waits[n], m.is[n] = s, true
	return api.OK
}

func (m *model) flush() api.Errno {
	if m.down || !m.act() {
		return api.ErrDown
	}
	fuse := m.fuse
	m.restart([]int{0, 1, 2, 3, 4, 5})
	m.fuse = fuse
	return api.OK
}

func (m *model) read(n int) (string, api.Errno) {
	switch {
	case m.down:
		return "", api.ErrDown
	case n < 0 || n >= len(m.is):
		return "", api.ErrDisk
	case m.is[n]:
		return m.waits[n], api.OK
	}
	return m.lasts[n], api.OK
}

func (m *model) turn(n, at int, by byte) api.Errno {
	if n < 0 || n >= len(m.is) {
		return api.ErrDisk
	}
	s := &m.lasts[n]
	if m.is[n] {
		s = &m.waits[n]
	}
	if *s == "" || at < 0 {
		return api.ErrArg
	}
	b := []byte(*s)
	b[at%len(b)] ^= by
	*s = string(b)
	return api.OK
}

func (m *model) lists() (lasts, waits []api.Held) {
	for n := range m.is {
		if m.lasts[n] != "" {
			lasts = append(lasts, held(n, m.lasts[n])...)
		}
		if m.is[n] {
			waits = append(waits, held(n, m.waits[n])...)
		}
	}
	return lasts, waits
}

// follow does a call, told by three bytes, on a disk and on the model.
func follow(t *testing.T, d *disk.Disk, m *model, kind, a, b byte) {
	t.Helper()
	n := int(a%8) - 1
	switch kind % 12 {
	case 0, 1, 2, 3:
		s := strings.Repeat(string([]byte{b}), int(b%5))
		told(t, "Write", d.Write(n, []byte(s)), m.write(n, s))
	case 4:
		s := strings.Repeat("x", 1022+int(b%5))
		told(t, "Write of many bytes", d.Write(n, []byte(s)), m.write(n, s))
	case 5, 6:
		told(t, "Flush", d.Flush(), m.flush())
	case 7:
		d.Fuse(int(b%9) - 2)
		m.fuse = int(b%9) - 2
	case 8, 9:
		at := int(int8(b))
		told(t, "Turn", d.Turn(n, at, a), m.turn(n, at, a))
	default:
		if !m.down && b > 40 {
			return
		}
		keep := []int{n, int(a >> 5), int(b % 8), int(b%8) - 1, int(b >> 6)}
		d.Restart(keep[:a>>3%6])
		m.restart(keep[:a>>3%6])
	}
}

func agree(t *testing.T, d *disk.Disk, m *model) {
	t.Helper()
	if d.Down() != m.down || d.Size() != len(m.is) {
		t.Errorf("Down, Size: %v, %d, not %v, %d", d.Down(), d.Size(), m.down, len(m.is))
	}
	for n := -1; n <= len(m.is); n++ {
		want, w := m.read(n)
		if b, e := d.Read(n); string(b) != want || e != w {
			t.Errorf("Read(%d): %q, %d, not %q, %d", n, b, e, want, w)
		}
	}
	lasts, waits := m.lists()
	stands(t, d, lasts, waits)
}

// P4.1 to P4.6: long scripts of calls, held against the model behind each call.
func TestScriptsAgainstTheModel(t *testing.T) {
	word := uint32(4)
	next := func() byte {
		word = word*1664525 + 1013904223
		return byte(word >> 24)
	}
	for range 200 {
		d, m := fresh(t, 6), &model{fuse: -1}
		for range 150 {
			follow(t, d, m, next(), next(), next())
			agree(t, d, m)
		}
		if t.Failed() {
			return
		}
	}
}

// P4.1 to P4.6: whatever the script is.
func FuzzDisk(f *testing.F) {
	f.Add([]byte{0, 1, 6, 5, 0, 0, 0, 1, 7, 8, 1, 0, 10, 9, 1})
	f.Add([]byte{7, 0, 3, 0, 2, 9, 0, 2, 9, 11, 255, 255, 4, 1, 4})
	f.Fuzz(func(t *testing.T, script []byte) {
		d, m := fresh(t, 6), &model{fuse: -1}
		for call := range slices.Chunk(script, 3) {
			if len(call) == 3 {
				follow(t, d, m, call[0], call[1], call[2])
				agree(t, d, m)
			}
		}
	})
}

// R1: ahead of all else, whatever the arguments are.
func TestNilDisk(t *testing.T) {
	var d *disk.Disk
	for _, n := range append(noSectors(4), 0, 1, 2) {
		if b, e := d.Read(n); len(b) != 0 || e != api.ErrArg {
			t.Errorf("Read(%d) of nil: %q, %d", n, b, e)
		}
		told(t, "Write of nil", d.Write(n, []byte("a")), api.ErrArg)
		told(t, "Write of too many bytes of nil", d.Write(n, make([]byte, 1025)), api.ErrArg)
		told(t, "Turn of nil", d.Turn(n, n, 1), api.ErrArg)
		d.Fuse(n)
		d.Restart([]int{n})
	}
	d.Restart(nil)
	told(t, "Flush of nil", d.Flush(), api.ErrArg)
	if d.Size() != 0 || d.Down() || len(d.Lasts()) != 0 || len(d.Waits()) != 0 {
		t.Errorf("Size, Down, Lasts, Waits of nil: %d, %v, %v, %v", d.Size(), d.Down(), d.Lasts(), d.Waits())
	}
}

// R1: a hand-made disk has no sectors; no call of it panics.
func TestHandMadeDisk(t *testing.T) {
	d := &disk.Disk{}
	for _, n := range append(noSectors(4), 0, 1, 2) {
		if b, e := d.Read(n); len(b) != 0 || e != api.ErrDisk {
			t.Errorf("Read(%d): %q, %d", n, b, e)
		}
		told(t, "Write", d.Write(n, nil), api.ErrDisk)
		told(t, "Turn", d.Turn(n, 0, 1), api.ErrDisk)
		d.Restart([]int{n})
	}
	told(t, "Flush", d.Flush(), api.OK)
	stands(t, d, nil, nil)
	cut(t, d)
	d.Restart(nil)
	if d.Size() != 0 || d.Down() {
		t.Errorf("Size, Down: %d, %v", d.Size(), d.Down())
	}
}

// The chapter's table of examples.
func TestExamples(t *testing.T) {
	d := fresh(t, 4)
	lay(t, d, 1, "a")
	d.Restart(nil)
	holds(t, d, 1, "")

	d = fresh(t, 4)
	lay(t, d, 1, "a")
	d.Restart([]int{1})
	holds(t, d, 1, "a")

	d = fresh(t, 4)
	d.Fuse(1)
	if a, b := d.Write(1, []byte("a")), d.Write(2, []byte("b")); a != api.OK || b != api.ErrDown || !d.Down() {
		t.Errorf("Write, Write, Down: %d, %d, %v", a, b, d.Down())
	}
}
