package pool_test

import (
	"bytes"
	"math"
	"slices"
	"strings"
	"testing"

	"tailrace/api"
	"tailrace/disk"
	"tailrace/pool"
)

// sectors makes a disk of n.
func sectors(t *testing.T, n int) *disk.Disk {
	t.Helper()
	d, e := disk.New(n)
	if e != api.OK {
		t.Fatalf("disk.New(%d): %d", n, e)
	}
	return d
}

// fresh is a new pool on a disk of n sectors.
func fresh(t *testing.T, n, frames int) (*pool.Pool, *disk.Disk) {
	t.Helper()
	d := sectors(t, n)
	p, e := pool.New(d, frames)
	if e != api.OK || p == nil {
		t.Fatalf("New(%d): %v, %d", frames, p, e)
	}
	return p, d
}

// told asks for an error's number.
func told(t *testing.T, call string, e, want api.Errno) {
	t.Helper()
	if e != want {
		t.Errorf("%s: %d, not %d", call, e, want)
	}
}

// gets asks for what a sector holds.
func gets(t *testing.T, p *pool.Pool, n int, want string) {
	t.Helper()
	if b, e := p.Get(n); string(b) != want || e != api.OK {
		t.Errorf("Get(%d): %q, %d, not %q", n, b, e, want)
	}
}

// refuses asks for Get's error.
func refuses(t *testing.T, p *pool.Pool, n int, want api.Errno) {
	t.Helper()
	if b, e := p.Get(n); len(b) != 0 || e != want {
		t.Errorf("Get(%d): %q, %d, not %d", n, b, e, want)
	}
}

// put, pin, unpin and flush must be done.
func put(t *testing.T, p *pool.Pool, n int, s string) {
	t.Helper()
	told(t, "Put", p.Put(n, []byte(s)), api.OK)
}

func pin(t *testing.T, p *pool.Pool, l ...int) {
	t.Helper()
	for _, n := range l {
		told(t, "Pin", p.Pin(n), api.OK)
	}
}

func unpin(t *testing.T, p *pool.Pool, l ...int) {
	t.Helper()
	for _, n := range l {
		told(t, "Unpin", p.Unpin(n), api.OK)
	}
}

func flush(t *testing.T, p *pool.Pool) {
	t.Helper()
	told(t, "Flush", p.Flush(), api.OK)
}

// stands asks for the sectors at hand, and for the dirty ones.
func stands(t *testing.T, p *pool.Pool, pages, dirty []int) {
	t.Helper()
	if l := p.Pages(); !slices.Equal(l, pages) {
		t.Errorf("Pages: %v, not %v", l, pages)
	}
	if l := p.Dirty(); !slices.Equal(l, dirty) {
		t.Errorf("Dirty: %v, not %v", l, dirty)
	}
}

// held asks for what a disk tells, written as `1a 2b`.
func held(t *testing.T, what string, l []api.Held, want string) {
	t.Helper()
	var told []string
	for _, h := range l {
		told = append(told, string(rune('0'+h.Sector))+string(h.Data))
	}
	if s := strings.Join(told, " "); s != want {
		t.Errorf("%s: %s, not %s", what, s, want)
	}
}

// written puts bytes into a disk's sector beside the pool.
func written(t *testing.T, d *disk.Disk, n int, s string) {
	t.Helper()
	told(t, "Write", d.Write(n, []byte(s)), api.OK)
}

// empty are the pages of so many frames that are empty.
func empty(n int) []int {
	l := make([]int, n)
	for i := range l {
		l[i] = -1
	}
	return l
}

// beside are numbers that are no sector's of a disk of n.
func beside(n int) []int {
	return []int{-1, -2, -n, -n - 1, math.MinInt32, math.MinInt, n, n + 1, 2 * n, api.MaxSectors, 1 << 32, math.MaxInt32, math.MaxInt}
}

// The chapter's examples.
func TestExamples(t *testing.T) {
	p, _ := fresh(t, 8, 2)
	put(t, p, 1, "a")
	put(t, p, 2, "b")
	stands(t, p, []int{1, 2}, []int{1, 2})

	put(t, p, 3, "c")
	stands(t, p, []int{3, 2}, []int{2, 3})
	gets(t, p, 1, "a")

	p, _ = fresh(t, 8, 2)
	pin(t, p, 2, 3)
	refuses(t, p, 4, api.ErrPinned)
}

// P7.1
func TestNewOfFramesThatMayBe(t *testing.T) {
	for _, n := range []int{1, 2, 3, 64, 999, 1000} {
		p, d := fresh(t, api.MaxSectors, n)
		stands(t, p, empty(n), nil)
		if p.Disk() != d {
			t.Errorf("Disk of %d frames is another one", n)
		}
		for i := range n {
			put(t, p, i, "x")
		}
		pages := p.Pages()
		if len(pages) != n || pages[0] != 0 || pages[n-1] != n-1 || len(p.Dirty()) != n {
			t.Errorf("%d frames: %v, %v", n, pages, p.Dirty())
		}
		held(t, "Waits", d.Waits(), "")
		put(t, p, n, "y")
		if pages := p.Pages(); len(pages) != n || pages[0] != n {
			t.Errorf("%d frames: %v", n, pages)
		}
		held(t, "Waits", d.Waits(), "0x")
	}
}

// P7.1
func TestNewOfFramesThatMayNotBe(t *testing.T) {
	d := sectors(t, 8)
	for _, n := range []int{0, -1, -2, -1000, math.MinInt32, math.MinInt, 1001, 1002, 4096, 1 << 32, 1<<32 + 3, math.MaxInt32, math.MaxInt} {
		if p, e := pool.New(d, n); p != nil || e != api.ErrArg {
			t.Errorf("New(%d): %v, %d", n, p, e)
		}
	}
}

// P7.1, R1
func TestNewOfNoDisk(t *testing.T) {
	for _, n := range []int{-1, 0, 1, 2, 1000, 1001, math.MaxInt, math.MinInt} {
		if p, e := pool.New(nil, n); p != nil || e != api.ErrArg {
			t.Errorf("New of no disk, %d: %v, %d", n, p, e)
		}
	}
}

// R1: a disk that its New did not make has no sectors.
func TestNewOfADiskThatIsHandMade(t *testing.T) {
	p, e := pool.New(&disk.Disk{}, 2)
	told(t, "New", e, api.OK)
	for _, n := range []int{-1, 0, 1, math.MaxInt, math.MinInt} {
		refuses(t, p, n, api.ErrDisk)
		told(t, "Put", p.Put(n, nil), api.ErrDisk)
		told(t, "Pin", p.Pin(n), api.ErrDisk)
		told(t, "Unpin", p.Unpin(n), api.ErrArg)
	}
	stands(t, p, empty(2), nil)
	flush(t, p)
}

// R5: a pool does not hang on what another one was told, but by their disk.
func TestPoolsAreApart(t *testing.T) {
	a, d := fresh(t, 8, 2)
	b, _ := pool.New(d, 2)
	c, _ := fresh(t, 8, 2)
	put(t, a, 1, "x")
	pin(t, a, 1, 2)
	stands(t, b, empty(2), nil)
	gets(t, b, 1, "")
	gets(t, c, 1, "")
	flush(t, a)
	gets(t, b, 1, "")
	gets(t, b, 2, "")
	gets(t, b, 3, "")
	gets(t, b, 1, "x")
	gets(t, c, 1, "")
	refuses(t, a, 3, api.ErrPinned)
}

// P7.2: the first empty frame, whatever the sector's number.
func TestFirstEmptyFrame(t *testing.T) {
	p, _ := fresh(t, 8, 4)
	put(t, p, 7, "a")
	stands(t, p, []int{7, -1, -1, -1}, []int{7})
	gets(t, p, 0, "")
	stands(t, p, []int{7, 0, -1, -1}, []int{7})
	pin(t, p, 5)
	stands(t, p, []int{7, 0, 5, -1}, []int{7})
	put(t, p, 3, "b")
	stands(t, p, []int{7, 0, 5, 3}, []int{3, 7})
}

// P7.2: a frame is used by each call, and has its second chance by that.
func TestFrameThatGoes(t *testing.T) {
	calls := []struct {
		name string
		call func(p *pool.Pool) api.Errno
	}{
		{"Get", func(p *pool.Pool) api.Errno { _, e := p.Get(2); return e }},
		{"Put", func(p *pool.Pool) api.Errno { return p.Put(2, []byte("b")) }},
		{"Pin and Unpin", func(p *pool.Pool) api.Errno { return p.Pin(2) + p.Unpin(2) }},
	}
	for _, c := range calls {
		p, _ := fresh(t, 8, 3)
		for n := 1; n <= 3; n++ {
			gets(t, p, n, "")
		}
		// All were used: the hand takes that away, and the first one goes.
		gets(t, p, 4, "")
		stands(t, p, []int{4, 2, 3}, nil)
		told(t, c.name, c.call(p), api.OK)
		gets(t, p, 5, "")
		if l := p.Pages(); !slices.Equal(l, []int{4, 2, 5}) {
			t.Errorf("%s: Pages %v", c.name, l)
		}
		gets(t, p, 6, "")
		if l := p.Pages(); !slices.Equal(l, []int{4, 6, 5}) {
			t.Errorf("%s: Pages %v behind", c.name, l)
		}
	}
}

// P7.2: what is refused, Flush, and telling use no frame.
func TestFrameIsNotUsedByOtherCalls(t *testing.T) {
	p, d := fresh(t, 8, 3)
	for n := 1; n <= 3; n++ {
		gets(t, p, n, "")
	}
	pin(t, p, 2)
	gets(t, p, 4, "")
	stands(t, p, []int{4, 2, 3}, nil)
	// Of these 3 was not used since the hand was there; 2 was, and the hand goes over it.
	gets(t, p, 5, "")
	gets(t, p, 6, "")
	stands(t, p, []int{6, 2, 5}, nil)
	unpin(t, p, 2)
	told(t, "Unpin once more", p.Unpin(2), api.ErrArg)
	told(t, "Put of too much", p.Put(5, make([]byte, 1025)), api.ErrDisk)
	told(t, "Put beside", p.Put(-1, nil), api.ErrDisk)
	refuses(t, p, 8, api.ErrDisk)
	flush(t, p)
	stands(t, p, []int{6, 2, 5}, nil)
	held(t, "Waits", d.Waits(), "")
	// The hand is at 2, which was used, as was 6; 5 was not used, whatever was refused of it.
	gets(t, p, 7, "")
	stands(t, p, []int{6, 2, 7}, nil)
}

// P7.2: a frame that goes is written if it is dirty, and not if it is not.
func TestFrameThatGoesIsWritten(t *testing.T) {
	p, d := fresh(t, 8, 1)
	put(t, p, 1, "a")
	held(t, "Waits", d.Waits(), "")
	put(t, p, 2, "b")
	held(t, "Waits", d.Waits(), "1a")
	stands(t, p, []int{2}, []int{2})
	gets(t, p, 3, "")
	held(t, "Waits", d.Waits(), "1a 2b")
	stands(t, p, []int{3}, nil)
	// It holds no bytes, and would be seen to wait if it were written.
	gets(t, p, 1, "a")
	held(t, "Waits", d.Waits(), "1a 2b")
	pin(t, p, 1)
	unpin(t, p, 1)
	gets(t, p, 2, "b")
	held(t, "Waits", d.Waits(), "1a 2b")
	held(t, "Lasts", d.Lasts(), "")
	// Of one that was flushed nothing is written again.
	put(t, p, 3, "c")
	flush(t, p)
	held(t, "Waits", d.Waits(), "")
	gets(t, p, 1, "a")
	held(t, "Waits", d.Waits(), "")
	held(t, "Lasts", d.Lasts(), "1a 2b 3c")
}

// P7.2: a frame that went leaves nothing behind for the next sector in it.
func TestFrameThatWentIsEmpty(t *testing.T) {
	p, d := fresh(t, 8, 1)
	put(t, p, 1, "abc")
	gets(t, p, 2, "")
	stands(t, p, []int{2}, nil)
	flush(t, p)
	held(t, "Lasts", d.Lasts(), "1abc")
	put(t, p, 3, "c")
	put(t, p, 4, "")
	gets(t, p, 4, "")
	stands(t, p, []int{4}, []int{4})
}

// P7.2: R3: the power is gone: what is dirty stays, and what is not may go.
func TestFrameThatCantBeWritten(t *testing.T) {
	cut := []struct {
		name string
		call func(d *disk.Disk)
	}{
		{"a fuse of 0", func(d *disk.Disk) { d.Fuse(0) }},
		{"no power", func(d *disk.Disk) { d.Fuse(0); d.Flush() }},
	}
	for _, c := range cut {
		for frames := range 3 {
			frames++
			p, d := fresh(t, 8, frames)
			pages, dirty := []int{}, []int{}
			for n := range frames {
				put(t, p, n, "a")
				pages, dirty = append(pages, n), append(dirty, n)
			}
			c.call(d)
			for range 3 {
				told(t, c.name, p.Put(4, []byte("b")), api.ErrDown)
				stands(t, p, pages, dirty)
				refuses(t, p, 5, api.ErrDown)
				told(t, c.name, p.Pin(5), api.ErrDown)
				stands(t, p, pages, dirty)
				if !d.Down() {
					t.Errorf("%s: the power is there", c.name)
				}
				held(t, "Waits", d.Waits(), "")
			}
			for n := range frames {
				gets(t, p, n, "a")
			}
			d.Restart(nil)
			put(t, p, 4, "b")
			pages[0] = 4
			dirty = append(dirty[1:], 4)
			stands(t, p, pages, dirty)
			held(t, "Waits", d.Waits(), "0a")
		}
	}
}

// P7.2: R3: a Get that is stopped by its write: the power was there to read.
func TestGetWhoseWriteFails(t *testing.T) {
	p, d := fresh(t, 8, 2)
	written(t, d, 5, "x")
	flush(t, p)
	put(t, p, 1, "a")
	put(t, p, 2, "b")
	d.Fuse(0)
	refuses(t, p, 5, api.ErrDown)
	stands(t, p, []int{1, 2}, []int{1, 2})
	d.Restart(nil)
	d.Fuse(0)
	told(t, "Pin", p.Pin(5), api.ErrDown)
	stands(t, p, []int{1, 2}, []int{1, 2})
	told(t, "Unpin", p.Unpin(1), api.ErrArg)
	d.Restart(nil)
	gets(t, p, 5, "x")
	stands(t, p, []int{5, 2}, []int{2})
	held(t, "Waits", d.Waits(), "1a")
}

// P7.2: R3: behind a write that failed the same frame goes, and those that were used still were.
func TestClockStandsWhereItStoodBehindAFailure(t *testing.T) {
	for _, fails := range []int{0, 1, 2, 7} {
		p, d := fresh(t, 16, 4)
		for n := range 4 {
			gets(t, p, n, "")
		}
		gets(t, p, 4, "")
		stands(t, p, []int{4, 1, 2, 3}, nil)
		// Used: 4, 1 and 2. Not used: 3, to be written.
		gets(t, p, 1, "")
		gets(t, p, 2, "")
		pin(t, p, 3)
		put(t, p, 3, "c")
		unpin(t, p, 3)
		// All are used now: the hand, at 1, goes round, and 1 goes.
		put(t, p, 1, "a")
		d.Fuse(0)
		for range fails {
			told(t, "Put", p.Put(9, nil), api.ErrDown)
			told(t, "Put", p.Put(10, []byte("z")), api.ErrDown)
			stands(t, p, []int{4, 1, 2, 3}, []int{1, 3})
		}
		d.Restart(nil)
		gets(t, p, 5, "")
		stands(t, p, []int{4, 5, 2, 3}, []int{3})
		gets(t, p, 6, "")
		stands(t, p, []int{4, 5, 6, 3}, []int{3})
		d.Fuse(0)
		for range fails {
			told(t, "Put", p.Put(9, nil), api.ErrDown)
			stands(t, p, []int{4, 5, 6, 3}, []int{3})
		}
		d.Restart(nil)
		gets(t, p, 7, "")
		stands(t, p, []int{4, 5, 6, 7}, nil)
		gets(t, p, 8, "")
		stands(t, p, []int{8, 5, 6, 7}, nil)
	}
}

// P7.2: with the power gone what is not dirty goes, for nothing is written.
func TestCleanFrameGoesWithoutPower(t *testing.T) {
	p, d := fresh(t, 8, 2)
	gets(t, p, 1, "")
	gets(t, p, 2, "")
	d.Fuse(0)
	put(t, p, 3, "c")
	if d.Down() {
		t.Errorf("an act was done")
	}
	stands(t, p, []int{3, 2}, []int{3})
	told(t, "disk.Flush", d.Flush(), api.ErrDown)
	put(t, p, 4, "d")
	stands(t, p, []int{3, 4}, []int{3, 4})
	told(t, "Put", p.Put(5, nil), api.ErrDown)
	stands(t, p, []int{3, 4}, []int{3, 4})
}

// P7.2: a fuse counts just the writes of what goes.
func TestFuseOfTheFramesThatGo(t *testing.T) {
	for k := range 5 {
		p, d := fresh(t, 16, 1)
		d.Fuse(k)
		put(t, p, 0, "a")
		for n := 1; n <= k; n++ {
			put(t, p, n, "a")
			gets(t, p, n, "a")
			pin(t, p, n)
			unpin(t, p, n)
		}
		told(t, "Put", p.Put(k+1, nil), api.ErrDown)
		stands(t, p, []int{k}, []int{k})
		if n := len(d.Waits()); n != k {
			t.Errorf("a fuse of %d: %d wait", k, n)
		}
	}
}

// P7.3
func TestGet(t *testing.T) {
	p, d := fresh(t, 4, 2)
	written(t, d, 0, "first")
	written(t, d, 3, strings.Repeat("l", 1024))
	gets(t, p, 0, "first")
	stands(t, p, []int{0, -1}, nil)
	gets(t, p, 3, strings.Repeat("l", 1024))
	stands(t, p, []int{0, 3}, nil)
	gets(t, p, 0, "first")
	gets(t, p, 3, strings.Repeat("l", 1024))
	gets(t, p, 1, "")
	stands(t, p, []int{1, 3}, nil)
	told(t, "Flush", p.Flush(), api.OK)
	gets(t, p, 1, "")
}

// P7.3: also of a frame that is empty, whose number is -1.
func TestGetBesideTheSectors(t *testing.T) {
	for _, full := range []bool{false, true} {
		p, _ := fresh(t, 4, 2)
		pages, dirty := empty(2), []int(nil)
		if full {
			put(t, p, 3, "a")
			put(t, p, 0, "b")
			pages, dirty = []int{3, 0}, []int{0, 3}
		}
		for _, n := range beside(4) {
			refuses(t, p, n, api.ErrDisk)
			told(t, "Pin", p.Pin(n), api.ErrDisk)
			told(t, "Unpin", p.Unpin(n), api.ErrArg)
			told(t, "Put", p.Put(n, []byte("x")), api.ErrDisk)
			stands(t, p, pages, dirty)
		}
	}
}

// P7.3: a read that fails empties no frame, and writes none.
func TestGetWhoseReadFails(t *testing.T) {
	// With frames empty.
	p, d := fresh(t, 8, 2)
	d.Fuse(0)
	told(t, "disk.Flush", d.Flush(), api.ErrDown)
	for _, n := range []int{1, -1, 8} {
		refuses(t, p, n, api.ErrDown)
		told(t, "Pin", p.Pin(n), api.ErrDown)
	}
	stands(t, p, empty(2), nil)
	d.Restart(nil)
	gets(t, p, 1, "")
	stands(t, p, []int{1, -1}, nil)

	// With none empty, and the first one dirty.
	put(t, p, 1, "a")
	gets(t, p, 2, "")
	refuses(t, p, 8, api.ErrDisk)
	stands(t, p, []int{1, 2}, []int{1})
	held(t, "Waits", d.Waits(), "")
	d.Fuse(0)
	told(t, "disk.Flush", d.Flush(), api.ErrDown)
	refuses(t, p, 3, api.ErrDown)
	stands(t, p, []int{1, 2}, []int{1})

	// And with all pinned: the disk is asked ahead of the clock.
	pin(t, p, 1, 2)
	refuses(t, p, 3, api.ErrDown)
	d.Restart(nil)
	refuses(t, p, 8, api.ErrDisk)
	refuses(t, p, 3, api.ErrPinned)
	gets(t, p, 1, "a")
}

// P7.3, P7.4: of what is at hand no power is asked for.
func TestAtHandWithoutPower(t *testing.T) {
	p, d := fresh(t, 8, 2)
	written(t, d, 1, "a")
	gets(t, p, 1, "a")
	d.Fuse(0)
	told(t, "disk.Flush", d.Flush(), api.ErrDown)
	gets(t, p, 1, "a")
	pin(t, p, 1)
	unpin(t, p, 1)
	put(t, p, 1, "b")
	gets(t, p, 1, "b")
	// An empty frame is room too.
	put(t, p, 2, "c")
	gets(t, p, 2, "c")
	stands(t, p, []int{1, 2}, []int{1, 2})
	held(t, "Waits", d.Waits(), "1a")
	// A sector that may not be is told ahead of the power.
	told(t, "Put", p.Put(8, nil), api.ErrDisk)
	told(t, "Put", p.Put(3, make([]byte, 1025)), api.ErrDisk)
	told(t, "Put", p.Put(3, make([]byte, 1024)), api.ErrDown)
}

// P7.4
func TestPut(t *testing.T) {
	p, d := fresh(t, 4, 2)
	put(t, p, 0, "first")
	put(t, p, 3, "last")
	stands(t, p, []int{0, 3}, []int{0, 3})
	gets(t, p, 0, "first")
	gets(t, p, 3, "last")
	// At hand: it stays where it is, and holds just the new bytes.
	put(t, p, 0, "f")
	stands(t, p, []int{0, 3}, []int{0, 3})
	gets(t, p, 0, "f")
	put(t, p, 0, "longer than it was")
	gets(t, p, 0, "longer than it was")
	held(t, "Waits", d.Waits(), "")
	// What was read becomes dirty.
	flush(t, p)
	gets(t, p, 1, "")
	stands(t, p, []int{1, 3}, nil)
	put(t, p, 1, "x")
	stands(t, p, []int{1, 3}, []int{1})
	put(t, p, 3, "y")
	stands(t, p, []int{1, 3}, []int{1, 3})
}

// P7.4: what is not at hand is not read: its bytes are gone.
func TestPutOfWhatIsNotAtHand(t *testing.T) {
	p, d := fresh(t, 4, 2)
	written(t, d, 2, "old bytes")
	put(t, p, 2, "new")
	gets(t, p, 2, "new")
	flush(t, p)
	held(t, "Lasts", d.Lasts(), "2new")
}

// P7.4: of none, of all that go in, and of one more.
func TestPutOfSoManyBytes(t *testing.T) {
	for _, n := range []int{0, 1, 1000, 1023, 1024} {
		p, d := fresh(t, 4, 2)
		s := strings.Repeat("x", n)
		put(t, p, 1, "ahead")
		put(t, p, 1, s)
		gets(t, p, 1, s)
		stands(t, p, []int{1, -1}, []int{1})
		flush(t, p)
		if b, e := d.Read(1); string(b) != s || e != api.OK {
			t.Errorf("%d bytes: %q, %d", n, b, e)
		}
	}
	for _, n := range []int{1025, 1026, 2048, 1 << 20} {
		p, _ := fresh(t, 4, 2)
		told(t, "Put of too much", p.Put(1, make([]byte, n)), api.ErrDisk)
		stands(t, p, empty(2), nil)
		put(t, p, 1, "ahead")
		flush(t, p)
		told(t, "Put of too much", p.Put(1, make([]byte, n)), api.ErrDisk)
		stands(t, p, []int{1, -1}, nil)
		gets(t, p, 1, "ahead")
	}
	p, d := fresh(t, 4, 2)
	written(t, d, 1, "a")
	told(t, "Put of nil", p.Put(1, nil), api.OK)
	gets(t, p, 1, "")
	stands(t, p, []int{1, -1}, []int{1})
	flush(t, p)
	held(t, "Lasts", d.Lasts(), "")
}

// P7.4: a Put that is refused neither empties nor writes.
func TestPutWithAllPinned(t *testing.T) {
	p, d := fresh(t, 8, 2)
	put(t, p, 1, "a")
	put(t, p, 2, "b")
	pin(t, p, 1, 2)
	for range 3 {
		told(t, "Put of a third", p.Put(3, []byte("c")), api.ErrPinned)
		refuses(t, p, 3, api.ErrPinned)
		told(t, "Pin of a third", p.Pin(3), api.ErrPinned)
		told(t, "Unpin of a third", p.Unpin(3), api.ErrArg)
		told(t, "Put beside", p.Put(8, nil), api.ErrDisk)
		told(t, "Put of too much", p.Put(3, make([]byte, 1025)), api.ErrDisk)
		stands(t, p, []int{1, 2}, []int{1, 2})
	}
	held(t, "Waits", d.Waits(), "")
	// Of what is at hand all goes on.
	gets(t, p, 1, "a")
	put(t, p, 2, "bb")
	gets(t, p, 2, "bb")
	pin(t, p, 2)
	stands(t, p, []int{1, 2}, []int{1, 2})
	unpin(t, p, 2, 2)
	put(t, p, 3, "c")
	stands(t, p, []int{1, 3}, []int{1, 3})
	held(t, "Waits", d.Waits(), "2bb")
}

// P7.5
func TestPin(t *testing.T) {
	p, d := fresh(t, 8, 2)
	written(t, d, 5, "x")
	// It is brought, and stays.
	pin(t, p, 5)
	stands(t, p, []int{5, -1}, nil)
	for n := range 5 {
		gets(t, p, n, "")
		stands(t, p, []int{5, n}, nil)
	}
	unpin(t, p, 5)
	// It was used, as was 4: the hand, behind the second frame, goes round to it.
	gets(t, p, 6, "")
	stands(t, p, []int{6, 4}, nil)
}

// P7.5: pins are counted.
func TestPinTwice(t *testing.T) {
	for pins := 1; pins <= 3; pins++ {
		p, _ := fresh(t, 8, 1)
		for range pins {
			pin(t, p, 1)
		}
		for range pins {
			refuses(t, p, 2, api.ErrPinned)
			stands(t, p, []int{1}, nil)
			unpin(t, p, 1)
		}
		for range 2 {
			told(t, "Unpin once more", p.Unpin(1), api.ErrArg)
			stands(t, p, []int{1}, nil)
		}
		gets(t, p, 2, "")
		stands(t, p, []int{2}, nil)
		// The pins went with their sector.
		told(t, "Unpin of what went", p.Unpin(1), api.ErrArg)
		told(t, "Unpin of what came", p.Unpin(2), api.ErrArg)
	}
}

// P7.5: whatever else is at hand, Unpin asks for the sector itself.
func TestUnpinOfWhatIsNotAtHand(t *testing.T) {
	p, _ := fresh(t, 8, 2)
	for _, n := range []int{0, 1, 7} {
		told(t, "Unpin", p.Unpin(n), api.ErrArg)
	}
	stands(t, p, empty(2), nil)
	pin(t, p, 1)
	for _, n := range append(beside(8), 0, 2, 7) {
		told(t, "Unpin", p.Unpin(n), api.ErrArg)
	}
	gets(t, p, 2, "")
	told(t, "Unpin of what is not pinned", p.Unpin(2), api.ErrArg)
	unpin(t, p, 1)
}

// P7.6: rising, whatever the order they were put in.
func TestFlush(t *testing.T) {
	p, d := fresh(t, 8, 4)
	flush(t, p)
	stands(t, p, empty(4), nil)
	put(t, p, 7, "g")
	put(t, p, 3, "c")
	put(t, p, 1, "a")
	put(t, p, 0, "z")
	stands(t, p, []int{7, 3, 1, 0}, []int{0, 1, 3, 7})
	flush(t, p)
	stands(t, p, []int{7, 3, 1, 0}, nil)
	held(t, "Waits", d.Waits(), "")
	held(t, "Lasts", d.Lasts(), "0z 1a 3c 7g")
	gets(t, p, 3, "c")
	// Just what is dirty is written.
	written(t, d, 1, "beside")
	put(t, p, 3, "d")
	flush(t, p)
	held(t, "Lasts", d.Lasts(), "0z 1beside 3d 7g")
	gets(t, p, 1, "a")
}

// P7.6: what waits on the disk lasts, where nothing is dirty too.
func TestFlushFlushesTheDisk(t *testing.T) {
	p, d := fresh(t, 8, 2)
	written(t, d, 1, "a")
	flush(t, p)
	held(t, "Lasts", d.Lasts(), "1a")
	held(t, "Waits", d.Waits(), "")
	put(t, p, 2, "b")
	gets(t, p, 3, "")
	gets(t, p, 4, "")
	held(t, "Waits", d.Waits(), "2b")
	flush(t, p)
	held(t, "Lasts", d.Lasts(), "1a 2b")
}

// P7.6: those ahead of the one that stops are not dirty any more.
func TestFlushThatStops(t *testing.T) {
	want := []struct {
		fuse  int
		dirty []int
		waits string
	}{
		{0, []int{1, 3, 7}, ""},
		{1, []int{3, 7}, "1a"},
		{2, []int{7}, "1a 3c"},
		{3, nil, "1a 3c 7g"},
	}
	for _, w := range want {
		p, d := fresh(t, 8, 4)
		put(t, p, 7, "g")
		put(t, p, 3, "c")
		gets(t, p, 0, "")
		put(t, p, 1, "a")
		d.Fuse(w.fuse)
		for range 2 {
			told(t, "Flush", p.Flush(), api.ErrDown)
			stands(t, p, []int{7, 3, 0, 1}, w.dirty)
			held(t, "Waits", d.Waits(), w.waits)
			held(t, "Lasts", d.Lasts(), "")
		}
		gets(t, p, 1, "a")
		gets(t, p, 7, "g")
		d.Restart([]int{1, 3, 7})
		flush(t, p)
		stands(t, p, []int{7, 3, 0, 1}, nil)
		held(t, "Lasts", d.Lasts(), "1a 3c 7g")
	}
}

// P7.6: a fuse of all acts lets a Flush be done.
func TestFlushThatJustIsDone(t *testing.T) {
	p, d := fresh(t, 8, 4)
	put(t, p, 7, "g")
	put(t, p, 3, "c")
	d.Fuse(3)
	flush(t, p)
	held(t, "Lasts", d.Lasts(), "3c 7g")
	told(t, "Flush", p.Flush(), api.ErrDown)
	stands(t, p, []int{7, 3, -1, -1}, nil)
}

// P7.6: pinned sectors are written as others are, and stay pinned.
func TestFlushOfPinnedSectors(t *testing.T) {
	p, d := fresh(t, 8, 2)
	put(t, p, 2, "b")
	put(t, p, 1, "a")
	pin(t, p, 1, 2)
	flush(t, p)
	held(t, "Lasts", d.Lasts(), "1a 2b")
	stands(t, p, []int{2, 1}, nil)
	refuses(t, p, 3, api.ErrPinned)
	unpin(t, p, 1, 2)
	told(t, "Unpin once more", p.Unpin(1), api.ErrArg)
}

// P7.6: what is dirty is gone, and no pin stays.
func TestDrop(t *testing.T) {
	p, d := fresh(t, 8, 2)
	p.Drop()
	stands(t, p, empty(2), nil)
	put(t, p, 1, "a")
	flush(t, p)
	put(t, p, 1, "b")
	put(t, p, 2, "c")
	pin(t, p, 1, 1, 2)
	p.Drop()
	stands(t, p, empty(2), nil)
	held(t, "Waits", d.Waits(), "")
	held(t, "Lasts", d.Lasts(), "1a")
	told(t, "Unpin", p.Unpin(1), api.ErrArg)
	told(t, "Unpin", p.Unpin(-1), api.ErrArg)
	if p.Disk() != d {
		t.Errorf("Disk is another one")
	}
	flush(t, p)
	held(t, "Lasts", d.Lasts(), "1a")
	gets(t, p, 2, "")
	gets(t, p, 1, "a")
	told(t, "Unpin", p.Unpin(1), api.ErrArg)
	stands(t, p, []int{2, 1}, nil)
	gets(t, p, 3, "")
	stands(t, p, []int{3, 1}, nil)
}

// P7.6: the clock is a new one: its hand is at the first frame, and none was used.
func TestDropMakesANewClock(t *testing.T) {
	p, _ := fresh(t, 16, 3)
	for n := range 5 {
		gets(t, p, n, "")
	}
	stands(t, p, []int{3, 4, 2}, nil)
	p.Drop()
	for n := range 3 {
		gets(t, p, n+10, "")
	}
	stands(t, p, []int{10, 11, 12}, nil)
	gets(t, p, 13, "")
	stands(t, p, []int{13, 11, 12}, nil)
}

// P7.6: Drop asks for no power.
func TestDropWithoutPower(t *testing.T) {
	p, d := fresh(t, 8, 2)
	put(t, p, 1, "a")
	d.Fuse(0)
	told(t, "Flush", p.Flush(), api.ErrDown)
	p.Drop()
	stands(t, p, empty(2), nil)
	refuses(t, p, 1, api.ErrDown)
	d.Restart(nil)
	gets(t, p, 1, "")
}

// P7.7: telling changes nothing, and tells the same again.
func TestTellingAgain(t *testing.T) {
	p, d := fresh(t, 8, 3)
	put(t, p, 5, "e")
	put(t, p, 2, "b")
	for range 3 {
		stands(t, p, []int{5, 2, -1}, []int{2, 5})
		if p.Disk() != d {
			t.Errorf("Disk is another one")
		}
	}
	// The sector 0 is told apart from a frame that is empty.
	gets(t, p, 0, "")
	stands(t, p, []int{5, 2, 0}, []int{2, 5})
	put(t, p, 0, "")
	stands(t, p, []int{5, 2, 0}, []int{0, 2, 5})
}

// P7.8: what is at hand hides what the disk holds, till it goes.
func TestDiskBesideThePool(t *testing.T) {
	p, d := fresh(t, 8, 2)
	written(t, d, 1, "a")
	gets(t, p, 1, "a")
	written(t, d, 1, "b")
	gets(t, p, 1, "a")
	told(t, "Turn", d.Turn(1, 0, 3), api.OK)
	gets(t, p, 1, "a")
	if b, e := d.Read(1); string(b) != "a" || e != api.OK {
		t.Errorf("the disk's own: %q, %d", b, e)
	}
	told(t, "Turn", d.Turn(1, 0, 2), api.OK)
	p.Drop()
	gets(t, p, 1, "c")
	// What is not dirty goes without a trace, what is dirty wins.
	put(t, p, 2, "x")
	written(t, d, 1, "d")
	written(t, d, 2, "y")
	gets(t, p, 3, "")
	gets(t, p, 4, "")
	gets(t, p, 1, "d")
	gets(t, p, 2, "x")
}

// P7.8: what lasts of what was put is found behind a crash.
func TestCrash(t *testing.T) {
	p, d := fresh(t, 8, 2)
	put(t, p, 1, "a")
	put(t, p, 2, "b")
	flush(t, p)
	put(t, p, 1, "c")
	put(t, p, 2, "d")
	d.Fuse(1)
	told(t, "Flush", p.Flush(), api.ErrDown)
	d.Restart(nil)
	p.Drop()
	gets(t, p, 1, "a")
	gets(t, p, 2, "b")
}

// R4: what is handed in is neither kept nor changed, its spare room included.
func TestWhatIsPutIsNotKept(t *testing.T) {
	p, d := fresh(t, 8, 1)
	all := []byte("abcdef")
	b := all[1:3]
	told(t, "Put", p.Put(1, b), api.OK)
	gets(t, p, 1, "bc")
	b[0] = 'x'
	gets(t, p, 1, "bc")
	all[3] = 'y'
	put(t, p, 1, "1234")
	if string(all) != "axcyef" {
		t.Errorf("what was handed in is changed: %q", all)
	}
	// Of what is at hand too.
	told(t, "Put", p.Put(1, b), api.OK)
	b[0], b[1] = 'p', 'q'
	gets(t, p, 1, "xc")
	flush(t, p)
	held(t, "Lasts", d.Lasts(), "1xc")
	put(t, p, 2, "zz")
	if string(all) != "apqyef" {
		t.Errorf("what was handed in is changed: %q", all)
	}
}

// R4: what is answered is new memory, spare room too.
func TestWhatIsGotIsNew(t *testing.T) {
	p, d := fresh(t, 8, 2)
	written(t, d, 1, "abc")
	// Of what was read just now, and of what was at hand.
	for range 3 {
		b, e := p.Get(1)
		if string(b) != "abc" || e != api.OK {
			t.Errorf("Get(1): %q, %d", b, e)
		}
		spoil(b)
		gets(t, p, 1, "abc")
	}
	if b, _ := d.Read(1); string(b) != "abc" {
		t.Errorf("the disk holds %q", b)
	}
	x, _ := p.Get(1)
	y, _ := p.Get(1)
	spoil(x)
	if string(y) != "abc" {
		t.Errorf("two answers share memory: %q", y)
	}
	// An answer stays as it was.
	put(t, p, 1, "defg")
	z, _ := p.Get(1)
	put(t, p, 1, "h")
	p.Drop()
	if string(y) != "abc" || string(z) != "defg" {
		t.Errorf("what was answered changes: %q, %q", y, z)
	}
	// No bytes have no spare room that is shared either.
	gets(t, p, 5, "")
	u, _ := p.Get(5)
	v, _ := p.Get(5)
	spoil(u)
	if w := append(v, 'x'); string(w) != "x" {
		t.Errorf("spare room is shared: %q", w)
	}
	gets(t, p, 5, "")
}

// spoil writes over bytes, and their spare room.
func spoil(b []byte) {
	b = b[:cap(b)]
	for i := range b {
		b[i] = '!'
	}
}

// R4
func TestWhatIsToldIsNew(t *testing.T) {
	p, _ := fresh(t, 8, 3)
	put(t, p, 5, "e")
	put(t, p, 2, "b")
	for range 2 {
		for _, l := range [][]int{p.Pages(), p.Dirty()} {
			l = l[:cap(l)]
			for i := range l {
				l[i] = 7
			}
		}
		stands(t, p, []int{5, 2, -1}, []int{2, 5})
	}
	pages, dirty := p.Pages(), p.Dirty()
	p.Drop()
	if !slices.Equal(pages, []int{5, 2, -1}) || !slices.Equal(dirty, []int{2, 5}) {
		t.Errorf("what was answered changes: %v, %v", pages, dirty)
	}
}

// R1: a nil pool, and one that New did not make.
func TestNoPool(t *testing.T) {
	for _, p := range []*pool.Pool{nil, {}, new(pool.Pool)} {
		for range 2 {
			for _, n := range append(beside(4), 0, 1, 3) {
				refuses(t, p, n, api.ErrArg)
				told(t, "Put", p.Put(n, []byte("a")), api.ErrArg)
				told(t, "Put of none", p.Put(n, nil), api.ErrArg)
				told(t, "Put of too much", p.Put(n, make([]byte, 1025)), api.ErrArg)
				told(t, "Pin", p.Pin(n), api.ErrArg)
				told(t, "Unpin", p.Unpin(n), api.ErrArg)
			}
			told(t, "Flush", p.Flush(), api.ErrArg)
			p.Drop()
			stands(t, p, nil, nil)
			if d := p.Disk(); d != nil {
				t.Errorf("Disk: %v", d)
			}
		}
	}
}

// slot is a frame of the model.
type slot struct {
	sector int
	data   string
	dirty  bool
	pins   int
	used   bool
}

// model is a pool as P7.2 to P7.7 say it, word by word; its disk is its own.
type model struct {
	slots []slot
	hand  int
	disk  *disk.Disk
}

func newModel(d *disk.Disk, frames int) *model {
	m := &model{disk: d}
	m.drop(frames)
	return m
}

func (m *model) drop(frames int) {
	m.slots, m.hand = nil, 0
	for range frames {
		m.slots = append(m.slots, slot{sector: -1})
	}
}

func (m *model) at(n int) int {
	return slices.IndexFunc(m.slots, func(s slot) bool { return n >= 0 && s.sector == n })
}

// room finds room for a sector; a call that is refused leaves the clock as it was.
func (m *model) room(n int, data string, dirty bool) api.Errno {
	if i := slices.IndexFunc(m.slots, func(s slot) bool { return s.sector < 0 }); i >= 0 {
		m.slots[i] = slot{sector: n, data: data, dirty: dirty, used: true}
		return api.OK
	}
	if !slices.ContainsFunc(m.slots, func(s slot) bool { return s.pins == 0 }) {
		return api.ErrPinned
	}
	slots, hand := slices.Clone(m.slots), m.hand
	for {
		s := &m.slots[m.hand]
		m.hand = (m.hand + 1) % len(m.slots)
		if s.pins > 0 {
			continue
		}
		if s.used {
			s.used = false
			continue
		}
		if s.dirty {
			if e := m.disk.Write(s.sector, []byte(s.data)); e != api.OK {
				m.slots, m.hand = slots, hand
				return e
			}
		}
		*s = slot{sector: n, data: data, dirty: dirty, used: true}
		return api.OK
	}
}

func (m *model) get(n int) (string, api.Errno) {
	if i := m.at(n); i >= 0 {
		m.slots[i].used = true
		return m.slots[i].data, api.OK
	}
	b, e := m.disk.Read(n)
	if e == api.OK {
		e = m.room(n, string(b), false)
	}
	if e != api.OK {
		return "", e
	}
	return string(b), api.OK
}

func (m *model) put(n int, s string) api.Errno {
	if n < 0 || n >= m.disk.Size() || len(s) > 1024 {
		return api.ErrDisk
	}
	if i := m.at(n); i >= 0 {
		m.slots[i].data, m.slots[i].dirty, m.slots[i].used = s, true, true
		return api.OK
	}
	return m.room(n, s, true)
}

func (m *model) pin(n int) api.Errno {
	_, e := m.get(n)
	if e == api.OK {
		m.slots[m.at(n)].pins++
	}
	return e
}

func (m *model) unpin(n int) api.Errno {
	i := m.at(n)
	if i < 0 || m.slots[i].pins == 0 {
		return api.ErrArg
	}
	m.slots[i].pins--
	return api.OK
}

func (m *model) flush() api.Errno {
	for n := range m.disk.Size() {
		if i := m.at(n); i >= 0 && m.slots[i].dirty {
			if e := m.disk.Write(n, []byte(m.slots[i].data)); e != api.OK {
				return e
			}
			m.slots[i].dirty = false
		}
	}
	return m.disk.Flush()
}

func (m *model) pages() []int {
	var l []int
	for _, s := range m.slots {
		l = append(l, s.sector)
	}
	return l
}

func (m *model) dirty() []int {
	var l []int
	for _, s := range m.slots {
		if s.dirty {
			l = append(l, s.sector)
		}
	}
	slices.Sort(l)
	return l
}

// both is a pool, and its model, on disks that are told the same.
type both struct {
	p *pool.Pool
	m *model
	// puts is how many sectors were put, so that each gets bytes of its own.
	puts int
}

func newBoth(t *testing.T, sectors, frames int) *both {
	p, _ := fresh(t, sectors, frames)
	_, d := fresh(t, sectors, 1)
	return &both{p: p, m: newModel(d, frames)}
}

// step does one of the calls on both, and holds the answers against each other.
func (x *both) step(t *testing.T, call string, n int) {
	t.Helper()
	p, m := x.p, x.m
	switch call {
	case "get":
		b, e := p.Get(n)
		if s, w := m.get(n); string(b) != s || e != w {
			t.Errorf("Get(%d): %q, %d, not %q, %d", n, b, e, s, w)
		}
	case "put":
		x.puts++
		s := strings.Repeat("x", n+1) + string(rune('a'+x.puts%26))
		told(t, "Put", p.Put(n, []byte(s)), m.put(n, s))
	case "pin":
		told(t, "Pin", p.Pin(n), m.pin(n))
	case "unpin":
		told(t, "Unpin", p.Unpin(n), m.unpin(n))
	case "flush":
		told(t, "Flush", p.Flush(), m.flush())
	case "drop":
		p.Drop()
		m.drop(len(m.slots))
	case "fuse":
		p.Disk().Fuse(n)
		m.disk.Fuse(n)
	default:
		p.Disk().Restart([]int{n})
		m.disk.Restart([]int{n})
	}
}

// hold holds all that can be told against each other.
func (x *both) hold(t *testing.T) {
	t.Helper()
	stands(t, x.p, x.m.pages(), x.m.dirty())
	d, w := x.p.Disk(), x.m.disk
	same := func(a, b api.Held) bool { return a.Sector == b.Sector && bytes.Equal(a.Data, b.Data) }
	if !slices.EqualFunc(d.Waits(), w.Waits(), same) {
		t.Errorf("Waits: %v, not %v", d.Waits(), w.Waits())
	}
	if !slices.EqualFunc(d.Lasts(), w.Lasts(), same) {
		t.Errorf("Lasts: %v, not %v", d.Lasts(), w.Lasts())
	}
	if d.Down() != w.Down() {
		t.Errorf("Down: %v, not %v", d.Down(), w.Down())
	}
}

// P7.2 to P7.7, R3: all short scripts of calls.
func TestAllShortScripts(t *testing.T) {
	type call struct {
		name string
		n    int
	}
	calls := []call{
		{"get", 0}, {"get", 1}, {"get", 2}, {"put", 0}, {"put", 1}, {"put", 2}, {"pin", 0}, {"pin", 1},
		{"unpin", 0}, {"flush", 0}, {"drop", 0}, {"fuse", 0}, {"fuse", 1}, {"restart", 1},
	}
	steps := 4
	if testing.Short() {
		steps = 3
	}
	total := 1
	for range steps {
		total *= len(calls)
	}
	for frames := 1; frames <= 2; frames++ {
		for script := range total {
			x := newBoth(t, 3, frames)
			// All that follows meets frames that are full, and one of them dirty.
			x.step(t, "put", 0)
			x.step(t, "get", 1)
			for s, rest := 0, script; s < steps; s, rest = s+1, rest/len(calls) {
				c := calls[rest%len(calls)]
				x.step(t, c.name, c.n)
			}
			x.hold(t)
			if t.Failed() {
				t.Fatalf("%d frames, script %d", frames, script)
			}
		}
	}
}

// lcg is numbers that look like chance, and are the same each time.
func lcg(seed uint32) func(below int) int {
	return func(below int) int {
		seed = seed*1664525 + 1013904223
		return int(seed>>8) % below
	}
}

// P7.2 to P7.7, R3: long scripts of calls, the kinds of calls more often or less.
func TestLongScripts(t *testing.T) {
	mixes := []string{
		"get get get put put put flush",
		"get put pin unpin unpin flush drop",
		"get get put put put put pin unpin unpin fuse restart",
		"put put put put get fuse restart flush pin unpin unpin drop",
	}
	for k, frames := range []int{1, 2, 3, 5, 8, 40, 100} {
		for l, mix := range mixes {
			calls := strings.Fields(mix)
			size := max(3, 2*frames)
			x := newBoth(t, size, frames)
			next := lcg(uint32(7 + 31*k + l))
			for s := range 3000 {
				call, n := calls[next(len(calls))], next(size+2)-1
				if call == "fuse" {
					n = next(6) - 1
				}
				x.step(t, call, n)
				if s%10 == 0 {
					x.hold(t)
				}
				if t.Failed() {
					t.Fatalf("%d frames, mix %d, step %d: %s %d", frames, l, s, call, n)
				}
			}
			x.hold(t)
		}
	}
}

// P7.8: what is got is what was put last, or what the disk holds, with any frames.
func TestFramesAreNotSeen(t *testing.T) {
	const size = 50
	for _, frames := range []int{1, 2, 3, 7, 49, 50, 51, 1000} {
		p, d := fresh(t, size, frames)
		// holds is what is got, by sectors.
		var holds [size]string
		for n := range size {
			holds[n] = "disk" + string(rune('A'+n))
			written(t, d, n, holds[n])
		}
		next := lcg(99)
		for s := range 5000 {
			n := next(size)
			switch next(8) {
			case 0, 1, 2:
				holds[n] = strings.Repeat(string(rune('a'+s%26)), next(30))
				put(t, p, n, holds[n])
			case 3:
				pin(t, p, n)
				gets(t, p, n, holds[n])
				unpin(t, p, n)
			case 4:
				if next(10) == 0 {
					flush(t, p)
				}
			default:
				gets(t, p, n, holds[n])
			}
		}
		for n := range size {
			gets(t, p, n, holds[n])
		}
		flush(t, p)
		p.Drop()
		for n := range size {
			if b, e := d.Read(n); string(b) != holds[n] || e != api.OK {
				t.Errorf("%d frames: sector %d: %q, %d, not %q", frames, n, b, e, holds[n])
			}
			gets(t, p, n, holds[n])
		}
	}
}
