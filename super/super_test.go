package super_test

import (
	"bytes"
	"math"
	"slices"
	"testing"

	"tailrace/api"
	"tailrace/disk"
	"tailrace/frame"
	"tailrace/super"
)

const top = 1<<31 - 1

// block makes a superblock without a tree.
func block(epoch int, pages ...int) api.Super { return api.Super{Epoch: epoch, Space: pages} }

func same(a, b api.Super) bool {
	return a.Epoch == b.Epoch && a.Root == b.Root && a.Height == b.Height && a.Count == b.Count && slices.Equal(a.Space, b.Space)
}

// copied is s in memory of its own.
func copied(s api.Super) api.Super {
	s.Space = slices.Clone(s.Space)
	return s
}

// alike are n pages.
func alike(n, page int) []int { return slices.Repeat([]int{page}, n) }

// packed are the bytes of a frame that holds numbers.
func packed(t *testing.T, kind, place int, l ...int) []byte {
	t.Helper()
	f, e := frame.Pack(kind, place, frame.Numbers(l))
	if e != api.OK {
		t.Fatalf("Pack: %d", e)
	}
	return f
}

// told are a superblock's numbers, as they stand in its bytes.
func told(s api.Super) []int {
	return append([]int{s.Epoch, s.Root, s.Height, s.Count}, s.Space...)
}

// framed are the bytes that Write lays of a superblock.
func framed(t *testing.T, s api.Super) []byte {
	t.Helper()
	return packed(t, api.FSuper, s.Epoch%2, told(s)...)
}

// made is a disk on which these sectors last.
func made(t *testing.T, held ...api.Held) *disk.Disk {
	t.Helper()
	d, e := disk.New(4)
	if e != api.OK {
		t.Fatalf("New: %d", e)
	}
	for _, h := range held {
		if e := d.Write(h.Sector, h.Data); e != api.OK {
			t.Fatalf("Write: %d", e)
		}
	}
	d.Flush()
	return d
}

// mayBe asks Check, and that Encode and Write refuse just what it refuses.
func mayBe(t *testing.T, s api.Super, want api.Errno) {
	t.Helper()
	if e := super.Check(s); e != want {
		t.Errorf("Check(%v): %d, not %d", s, e, want)
	}
	b, e := super.Encode(s)
	if e != want || e != api.OK && len(b) != 0 {
		t.Errorf("Encode(%v): %v, %d, not %d", s, b, e, want)
	}
	d := made(t)
	if e := super.Write(d, s); e != want {
		t.Errorf("Write(%v): %d, not %d", s, e, want)
	}
	if want != api.OK {
		holds(t, d)
		waits(t, d)
		return
	}
	if !bytes.Equal(b, frame.Numbers(told(s))) {
		t.Errorf("Encode(%v): %v", s, b)
	}
	decodes(t, b, s)
	holds(t, d, api.Held{Sector: s.Epoch % 2, Data: framed(t, s)})
	waits(t, d)
	chooses(t, d, s)
}

func decodes(t *testing.T, b []byte, want api.Super) {
	t.Helper()
	if s, e := super.Decode(b); !same(s, want) || e != api.OK {
		t.Errorf("Decode(%v): %v, %d, not %v", b, s, e, want)
	}
}

func decodesNot(t *testing.T, what string, b []byte) {
	t.Helper()
	if s, e := super.Decode(b); !same(s, api.Super{}) || e != api.ErrSuper {
		t.Errorf("Decode of %s: %v, %d, not ErrSuper", what, s, e)
	}
}

func writes(t *testing.T, d *disk.Disk, s api.Super, want api.Errno) {
	t.Helper()
	if e := super.Write(d, s); e != want {
		t.Errorf("Write(%v): %d, not %d", s, e, want)
	}
}

func chooses(t *testing.T, d *disk.Disk, want api.Super) {
	t.Helper()
	if s, e := super.Choose(d); !same(s, want) || e != api.OK {
		t.Errorf("Choose: %v, %d, not %v", s, e, want)
	}
}

func choosesNot(t *testing.T, d *disk.Disk, want api.Errno) {
	t.Helper()
	if s, e := super.Choose(d); !same(s, api.Super{}) || e != want {
		t.Errorf("Choose: %v, %d, not %d", s, e, want)
	}
}

func sameHeld(a, b api.Held) bool { return a.Sector == b.Sector && bytes.Equal(a.Data, b.Data) }

// holds asks for all that lasts on a disk.
func holds(t *testing.T, d *disk.Disk, want ...api.Held) {
	t.Helper()
	if l := d.Lasts(); !slices.EqualFunc(l, want, sameHeld) {
		t.Errorf("lasts: %v, not %v", l, want)
	}
}

// waits asks for all that waits on a disk.
func waits(t *testing.T, d *disk.Disk, want ...api.Held) {
	t.Helper()
	if l := d.Waits(); !slices.EqualFunc(l, want, sameHeld) {
		t.Errorf("waits: %v, not %v", l, want)
	}
}

// The chapter's examples.
func TestExamples(t *testing.T) {
	d := made(t)
	choosesNot(t, d, api.ErrNone)
	writes(t, d, block(4, 2), api.OK)
	writes(t, d, block(5, 3), api.OK)
	chooses(t, d, block(5, 3))

	d = made(t)
	writes(t, d, block(4, 2), api.OK)
	d.Turn(0, 0, 1)
	choosesNot(t, d, api.ErrNone)
}

// P9.1, P9.2, P9.3
func TestNumbers(t *testing.T) {
	for _, n := range []int{0, 1, 2, 20, 255, 256, 1 << 24, top - 1, top} {
		mayBe(t, block(n, 2), api.OK)
		mayBe(t, api.Super{Count: n, Space: []int{2}}, api.OK)
	}
	for _, n := range []int{-1, -2, math.MinInt, math.MinInt + 1, top + 1, top + 2, 1 << 32, 1<<32 + 4, math.MaxInt} {
		mayBe(t, block(n, 2), api.ErrSuper)
		mayBe(t, api.Super{Count: n, Space: []int{2}}, api.ErrSuper)
	}
	mayBe(t, api.Super{Epoch: top, Root: top, Height: 20, Count: top, Space: alike(100, top)}, api.OK)
}

// P9.1, P9.2, P9.3: Height and Root.
func TestTree(t *testing.T) {
	roots := []int{math.MinInt, -2, -1, 0, 1, api.First, 3, top, top + 1, 1 << 32, 1<<32 + 2, math.MaxInt}
	for _, height := range []int{math.MinInt, -1, 0, 1, 2, 19, 20, 21, top, 1 << 32, 1<<32 + 1, math.MaxInt} {
		for _, root := range roots {
			want := api.ErrSuper
			if height == 0 && root == 0 || height >= 1 && height <= 20 && root >= 2 && root <= top {
				want = api.OK
			}
			mayBe(t, api.Super{Epoch: 7, Root: root, Height: height, Count: 9, Space: []int{2, 5}}, want)
		}
	}
}

// P9.1, P9.2, P9.3: Space.
func TestPages(t *testing.T) {
	for _, n := range []int{1, 2, 99, 100} {
		for _, page := range []int{api.First, 3, top - 1, top} {
			mayBe(t, block(5, alike(n, page)...), api.OK)
		}
		for _, page := range []int{math.MinInt, -1, 0, api.First - 1, top + 1, 1 << 32, 1<<32 + 2, math.MaxInt} {
			for _, at := range []int{0, n / 2, n - 1} {
				l := alike(n, 9)
				l[at] = page
				mayBe(t, block(5, l...), api.ErrSuper)
			}
		}
	}
	for _, n := range []int{0, 101, 102, 1000} {
		mayBe(t, block(5, alike(n, 9)...), api.ErrSuper)
	}
	mayBe(t, api.Super{Space: nil}, api.ErrSuper)
	mayBe(t, api.Super{}, api.ErrSuper)
	// Pages need not rise, and may be there twice.
	mayBe(t, api.Super{Epoch: 8, Root: 3, Height: 1, Space: []int{9, 3, 3, 7}}, api.OK)
}

// P9.2
func TestEncode(t *testing.T) {
	b, e := super.Encode(api.Super{Epoch: 1, Root: 258, Height: 3, Space: []int{5, 6}, Count: top})
	want := []byte{0, 0, 0, 1, 0, 0, 1, 2, 0, 0, 0, 3, 127, 255, 255, 255, 0, 0, 0, 5, 0, 0, 0, 6}
	if !bytes.Equal(b, want) || e != api.OK {
		t.Errorf("%v, %d", b, e)
	}
	for _, n := range []int{1, 100} {
		if b, e := super.Encode(block(4, alike(n, 3)...)); len(b) != 16+4*n || e != api.OK {
			t.Errorf("%d pages: %d bytes, %d", n, len(b), e)
		}
	}
}

// P9.2
func TestDecode(t *testing.T) {
	decodes(t, frame.Numbers([]int{0, 0, 0, 0, 2}), block(0, 2))
	decodes(t, frame.Numbers([]int{5, 3, 2, 9, 2, 7}), api.Super{Epoch: 5, Root: 3, Height: 2, Count: 9, Space: []int{2, 7}})
	for what, l := range map[string][]int{
		"no number":         {},
		"one number":        {5},
		"two numbers":       {5, 3},
		"three numbers":     {5, 3, 2},
		"no page":           {5, 3, 2, 9},
		"no page, no tree":  {0, 0, 0, 0},
		"101 pages":         append([]int{5, 3, 2, 9}, alike(101, 2)...),
		"246 pages":         append([]int{5, 3, 2, 9}, alike(246, 2)...),
		"Epoch above":       {top + 1, 3, 2, 9, 2},
		"Epoch below 0":     {-1, 3, 2, 9, 2},
		"Count above":       {5, 3, 2, top + 1, 2},
		"Count below 0":     {5, 3, 2, -1, 2},
		"Height above":      {5, 3, 21, 9, 2},
		"Height below 0":    {5, 3, -1, 9, 2},
		"a root, no height": {5, 3, 0, 9, 2},
		"a height, no root": {5, 0, 2, 9, 2},
		"a root below":      {5, 1, 2, 9, 2},
		"a root above":      {5, top + 1, 2, 9, 2},
		"a page below":      {5, 3, 2, 9, 2, 1},
		"a page of 0":       {5, 3, 2, 9, 0},
		"a page above":      {5, 3, 2, 9, top + 1, 2},
	} {
		decodesNot(t, what, frame.Numbers(l))
	}
	decodesNot(t, "nil", nil)
	whole := frame.Numbers([]int{5, 3, 2, 9, 2, 7})
	for n := range whole {
		if n != 20 {
			decodesNot(t, "a beginning", whole[:n])
		}
	}
	decodes(t, whole[:20], api.Super{Epoch: 5, Root: 3, Height: 2, Count: 9, Space: []int{2}})
	decodesNot(t, "a byte more", append(slices.Clone(whole), 0))
	decodesNot(t, "three bytes more", append(slices.Clone(whole), 0, 0, 2))
	decodesNot(t, "no numbers", bytes.Repeat([]byte{255}, 24))
}

// P9.2: all numbers about the edges, in bytes: what is decoded has just these bytes.
func TestDecodeAll(t *testing.T) {
	edges := []int{0, 1, 2, 20, 21, top, top + 1}
	some := 0
	for at := range 7 * 7 * 7 * 7 * 7 * 7 {
		var l []int
		for n := at; len(l) < 6; n /= 7 {
			l = append(l, edges[n%7])
		}
		b := frame.Numbers(l)
		s, e := super.Decode(b)
		mine := api.Super{Epoch: l[0], Root: l[1], Height: l[2], Count: l[3], Space: l[4:]}
		if c, x := super.Encode(mine); x != e || e == api.OK && (!bytes.Equal(c, b) || !same(s, mine)) || e != api.OK && !same(s, api.Super{}) {
			t.Fatalf("Decode(%v): %v, %d", l, s, e)
		}
		if e == api.OK {
			some++
		}
	}
	// Epoch and Count: 6 of 7 edges; both pages: 4 of them; no tree, or one of 3 heights and 4 roots.
	if some != 6*6*4*4*(1+3*4) {
		t.Errorf("%d superblocks", some)
	}
}

// P9.3, P9.4, R1, R2: a disk that is none.
func TestNoDisk(t *testing.T) {
	writes(t, nil, block(4, 2), api.ErrArg)
	writes(t, nil, api.Super{}, api.ErrArg)
	choosesNot(t, nil, api.ErrArg)
	// One that New did not make has no sectors: the disk's error.
	writes(t, &disk.Disk{}, block(4, 2), api.ErrDisk)
	writes(t, &disk.Disk{}, api.Super{}, api.ErrSuper)
	choosesNot(t, &disk.Disk{}, api.ErrDisk)
}

// P9.3: each superblock in its own sector, and flushed.
func TestWrite(t *testing.T) {
	d := made(t, api.Held{Sector: 2, Data: []byte("a")}, api.Held{Sector: 3, Data: []byte("b")})
	d.Write(3, []byte("c"))
	two, three := api.Held{Sector: 2, Data: []byte("a")}, api.Held{Sector: 3, Data: []byte("c")}
	four, five, six := block(4, 2), block(5, 3), block(6, 2, 3)
	writes(t, d, four, api.OK)
	// All that waited lasts with it.
	holds(t, d, api.Held{Sector: 0, Data: framed(t, four)}, two, three)
	waits(t, d)
	writes(t, d, five, api.OK)
	holds(t, d, api.Held{Sector: 0, Data: framed(t, four)}, api.Held{Sector: 1, Data: framed(t, five)}, two, three)
	writes(t, d, six, api.OK)
	holds(t, d, api.Held{Sector: 0, Data: framed(t, six)}, api.Held{Sector: 1, Data: framed(t, five)}, two, three)
	waits(t, d)
	small, _ := disk.New(2)
	writes(t, small, four, api.OK)
	writes(t, small, five, api.OK)
	holds(t, small, api.Held{Sector: 0, Data: framed(t, four)}, api.Held{Sector: 1, Data: framed(t, five)})
}

// P9.3, R3: what stays on the disk behind each error.
func TestWriteErrors(t *testing.T) {
	bad, four, six := block(4), block(4, 2), block(6, 2)
	old := api.Held{Sector: 0, Data: framed(t, four)}
	fresh := api.Held{Sector: 0, Data: framed(t, six)}
	page := api.Held{Sector: 2, Data: []byte("a")}
	start := func(fuse int) *disk.Disk {
		d := made(t, old)
		d.Write(2, page.Data)
		d.Fuse(fuse)
		return d
	}
	// A superblock that may not be is told ahead of the disk's errors, and is no act.
	d := start(0)
	writes(t, d, bad, api.ErrSuper)
	if d.Down() {
		t.Errorf("the power is gone")
	}
	// The fuse goes with the writing.
	writes(t, d, six, api.ErrDown)
	if !d.Down() {
		t.Errorf("the power is there")
	}
	holds(t, d, old)
	waits(t, d, page)
	// Without power.
	writes(t, d, six, api.ErrDown)
	writes(t, d, bad, api.ErrSuper)
	choosesNot(t, d, api.ErrDown)
	holds(t, d, old)
	waits(t, d, page)
	d.Restart(nil)
	chooses(t, d, four)
	// The fuse goes with the flush: what was written waits.
	d = start(1)
	writes(t, d, six, api.ErrDown)
	holds(t, d, old)
	waits(t, d, fresh, page)
	choosesNot(t, d, api.ErrDown)
	d.Restart(nil)
	chooses(t, d, four)
	// Two acts are enough.
	d = start(2)
	writes(t, d, six, api.OK)
	holds(t, d, fresh, page)
	waits(t, d)
	chooses(t, d, six)
	d.Write(2, nil)
	if !d.Down() {
		t.Errorf("more acts than two are left")
	}
}

// P9.4
func TestChoose(t *testing.T) {
	// counts is, behind each Write, which of them it is that counts.
	for _, c := range []struct{ epochs, counts []int }{
		{[]int{0}, []int{0}}, {[]int{1}, []int{0}}, {[]int{top}, []int{0}}, {[]int{top - 1}, []int{0}},
		{[]int{4, 5}, []int{0, 1}}, {[]int{5, 4}, []int{0, 0}}, {[]int{0, 1}, []int{0, 1}}, {[]int{1, 0}, []int{0, 0}},
		{[]int{4, 3}, []int{0, 0}}, {[]int{3, 4}, []int{0, 1}}, {[]int{top, 0}, []int{0, 0}}, {[]int{1, top - 1}, []int{0, 1}},
		{[]int{top - 1, top}, []int{0, 1}}, {[]int{top, top - 1}, []int{0, 0}},
		// Of two in one sector the later one is there, also of a lower Epoch.
		{[]int{4, 6}, []int{0, 1}}, {[]int{6, 4}, []int{0, 1}}, {[]int{5, 3}, []int{0, 1}}, {[]int{4, 4}, []int{0, 1}},
		{[]int{5, 6, 4}, []int{0, 1, 0}}, {[]int{4, 9, 7, 3}, []int{0, 1, 2, 0}}, {[]int{4, 5, 6, 7, 8}, []int{0, 1, 2, 3, 4}},
	} {
		d := made(t)
		for i, epoch := range c.epochs {
			// The page tells which Write it is.
			writes(t, d, block(epoch, i+2), api.OK)
			chooses(t, d, block(c.epochs[c.counts[i]], c.counts[i]+2))
		}
	}
}

// P9.4: what waits counts as what lasts does, as Read tells it; Choose changes nothing, and is no act.
func TestChooseWaits(t *testing.T) {
	four, five := block(4, 2), block(5, 3)
	d := made(t, api.Held{Sector: 0, Data: framed(t, four)})
	d.Write(1, framed(t, five))
	d.Fuse(0)
	chooses(t, d, five)
	chooses(t, d, five)
	if d.Down() {
		t.Errorf("the power is gone")
	}
	holds(t, d, api.Held{Sector: 0, Data: framed(t, four)})
	waits(t, d, api.Held{Sector: 1, Data: framed(t, five)})
	d.Fuse(-1)
	d.Write(1, nil)
	chooses(t, d, four)
	d.Write(0, nil)
	choosesNot(t, d, api.ErrNone)
	d.Restart(nil)
	chooses(t, d, four)
}

// P9.4: what is no superblock of its sector, alone and beside one.
func TestChooseNone(t *testing.T) {
	four, five := block(4, 2), block(5, 3)
	for what, c := range map[string]struct {
		sector int
		data   []byte
	}{
		"a leaf":                      {0, packed(t, api.FLeaf, 0, told(block(6, 2))...)},
		"a leaf in 1":                 {1, packed(t, api.FLeaf, 1, told(block(7, 2))...)},
		"an inner one":                {0, packed(t, api.FInner, 0, told(block(6, 2))...)},
		"lists":                       {1, packed(t, api.FSpace, 1, told(block(7, 2))...)},
		"a frame of sector 1":         {0, packed(t, api.FSuper, 1, told(block(6, 2))...)},
		"a frame of sector 0":         {1, packed(t, api.FSuper, 0, told(block(7, 2))...)},
		"another one's frame":         {0, framed(t, block(7, 2))},
		"another one's frame in 1":    {1, framed(t, block(6, 2))},
		"a frame of sector 2":         {0, packed(t, api.FSuper, 2, told(block(6, 2))...)},
		"an odd Epoch in 0":           {0, packed(t, api.FSuper, 0, told(block(7, 2))...)},
		"an even Epoch in 1":          {1, packed(t, api.FSuper, 1, told(block(6, 2))...)},
		"no data":                     {0, packed(t, api.FSuper, 0)},
		"no page":                     {0, packed(t, api.FSuper, 0, 6, 0, 0, 0)},
		"three numbers":               {1, packed(t, api.FSuper, 1, 7, 0, 0)},
		"too many pages":              {1, packed(t, api.FSuper, 1, told(block(7, alike(101, 2)...))...)},
		"an Epoch above":              {0, packed(t, api.FSuper, 0, told(block(top+1, 2))...)},
		"an Epoch below 0":            {1, packed(t, api.FSuper, 1, told(block(-1, 2))...)},
		"a page below":                {0, packed(t, api.FSuper, 0, told(block(6, 1))...)},
		"a root without a height":     {0, packed(t, api.FSuper, 0, 6, 2, 0, 0, 2)},
		"a superblock without frame":  {0, frame.Numbers(told(block(6, 2)))},
		"a frame and a byte":          {0, append(framed(t, block(6, 2)), 0)},
		"a frame, a byte fewer":       {0, framed(t, block(6, 2))[:30]},
		"a frame with a byte between": {1, slices.Insert(framed(t, block(7, 2)), 20, 0)},
		"any bytes":                   {0, []byte("tailrace")},
		"1024 bytes":                  {1, bytes.Repeat([]byte{1}, api.SectorSize)},
	} {
		held := api.Held{Sector: c.sector, Data: c.data}
		d := made(t, held)
		if s, e := super.Choose(d); !same(s, api.Super{}) || e != api.ErrNone {
			t.Errorf("%s: %v, %d", what, s, e)
		}
		other := []api.Super{five, four}[c.sector]
		writes(t, d, other, api.OK)
		if s, e := super.Choose(d); !same(s, other) || e != api.OK {
			t.Errorf("%s, beside one: %v, %d", what, s, e)
		}
	}
	// A superblock in a page counts not.
	choosesNot(t, made(t, api.Held{Sector: 2, Data: packed(t, api.FSuper, 2, told(four)...)}, api.Held{Sector: 3, Data: framed(t, four)}), api.ErrNone)
}

// P9.4: each byte turned, each bit of it.
func TestChooseTurned(t *testing.T) {
	four, five := api.Super{Epoch: 4, Root: 9, Height: 2, Count: 3, Space: []int{2, 8}}, block(5, 3)
	d := made(t)
	writes(t, d, four, api.OK)
	for at := range len(framed(t, four)) {
		for bit := range 8 {
			d.Turn(0, at, 1<<bit)
			choosesNot(t, d, api.ErrNone)
			d.Turn(0, at, 1<<bit)
		}
	}
	chooses(t, d, four)
	writes(t, d, five, api.OK)
	for at := range len(framed(t, five)) {
		d.Turn(1, at, 128)
		chooses(t, d, four)
		d.Turn(0, at, 1)
		choosesNot(t, d, api.ErrNone)
		d.Turn(1, at, 128)
		chooses(t, d, five)
		d.Turn(0, at, 1)
	}
	chooses(t, d, five)
}

// P9.5: a Write that is cut at each place, whatever of what waits lasts.
func TestCut(t *testing.T) {
	sets := [][]int{nil, {0}, {1}, {0, 1}, {2}, {0, 1, 2}, {1, 0, 1}}
	for first := range 6 {
		for fuse := range 4 {
			for _, keep := range sets {
				d := made(t)
				writes(t, d, block(first, 2), api.OK)
				for epoch := first + 1; epoch < first+5; epoch++ {
					ahead, fresh := block(epoch-1, epoch+1), block(epoch, epoch+2)
					writes(t, d, ahead, api.OK)
					d.Fuse(fuse)
					e := super.Write(d, fresh)
					if (e == api.OK) != (fuse >= 2) || e != api.OK && e != api.ErrDown {
						t.Fatalf("Write with a fuse of %d: %d", fuse, e)
					}
					d.Restart(keep)
					// Cut at the flush, what was written may last.
					if e == api.OK || fuse == 1 && slices.Contains(keep, epoch%2) {
						chooses(t, d, fresh)
					} else {
						chooses(t, d, ahead)
					}
				}
			}
		}
	}
}

// numbers is a short rule that tells numbers: each seed its own.
func numbers(seed uint64) func(n int) int {
	return func(n int) int {
		seed = seed*6364136223846793005 + 1442695040888963407
		return int(seed>>33) % n
	}
}

// P9.3 to P9.5: long scripts of writes, cuts and turned bytes, held against what lies in each sector.
func TestScripts(t *testing.T) {
	for seed := range uint64(60) {
		next := numbers(seed)
		d := made(t)
		var lasts, lies [2]api.Super // Epoch -1: none
		lasts[0].Epoch, lasts[1].Epoch = -1, -1
		lies = lasts
		for range 200 {
			s := block(next(12), next(3)+2)
			s.Count = next(1000)
			n := s.Epoch % 2
			switch op := next(8); {
			case op < 4:
				writes(t, d, s, api.OK)
				lies[n] = s
				lasts = lies
			case op < 6:
				cut := next(2)
				d.Fuse(cut)
				writes(t, d, s, api.ErrDown)
				keep := [][]int{nil, {0}, {1}, {1, 0}}[next(4)]
				d.Restart(keep)
				lies = lasts
				if cut == 1 && slices.Contains(keep, n) {
					lies[n], lasts[n] = s, s
				}
			case op < 7:
				writes(t, d, block(s.Epoch), api.ErrSuper)
			default:
				if d.Turn(n, next(40), 1) == api.OK {
					lies[n] = api.Super{Epoch: -1}
					lasts = lies
					d.Write(n, nil)
					d.Flush()
				}
			}
			want := lies[0]
			if lies[1].Epoch > want.Epoch {
				want = lies[1]
			}
			if want.Epoch < 0 {
				choosesNot(t, d, api.ErrNone)
			} else {
				chooses(t, d, want)
			}
		}
	}
}

// R4: what is handed in is not changed, spare room included, nor kept.
func TestHandedIn(t *testing.T) {
	room := []int{2, 7, 70, 71, 72, 73, 74, 75}
	s := api.Super{Epoch: 4, Root: 3, Height: 2, Space: room[:2], Count: 9}
	kept := copied(s)
	b, _ := super.Encode(s)
	d := made(t)
	super.Check(s)
	writes(t, d, s, api.OK)
	if !slices.Equal(room, []int{2, 7, 70, 71, 72, 73, 74, 75}) {
		t.Errorf("%v", room)
	}
	for i := range room {
		room[i] = 1
	}
	decodes(t, b, kept)
	chooses(t, d, kept)

	bytesRoom := append(slices.Clone(b), 1, 2, 3, 4, 5, 6, 7, 8)
	want := slices.Clone(bytesRoom)
	got, e := super.Decode(bytesRoom[:len(b)])
	if e != api.OK || !bytes.Equal(bytesRoom, want) {
		t.Errorf("%v, %d", bytesRoom, e)
	}
	for i := range bytesRoom {
		bytesRoom[i] = 255
	}
	if !same(got, kept) {
		t.Errorf("%v", got)
	}
}

// R4, R5: what is answered is new memory, spare room too.
func TestAnswered(t *testing.T) {
	s := api.Super{Epoch: 4, Root: 3, Height: 2, Space: []int{2, 7}, Count: 9}
	spoilBytes := func(b []byte) {
		for i := range b[:cap(b)] {
			b[:cap(b)][i] = 255
		}
	}
	spoil := func(s api.Super) {
		for i := range s.Space[:cap(s.Space)] {
			s.Space[:cap(s.Space)][i] = 1
		}
	}
	kept := copied(s)
	b, _ := super.Encode(s)
	c, _ := super.Encode(s)
	spoilBytes(b)
	if !same(s, kept) || !bytes.Equal(c, frame.Numbers(told(kept))) {
		t.Errorf("%v, %v", s, c)
	}
	one, _ := super.Decode(c)
	two, _ := super.Decode(c)
	spoil(one)
	if !same(two, kept) || !bytes.Equal(c, frame.Numbers(told(kept))) {
		t.Errorf("%v, %v", two, c)
	}
	d := made(t)
	writes(t, d, s, api.OK)
	first, _ := super.Choose(d)
	second, _ := super.Choose(d)
	spoil(first)
	if !same(second, kept) {
		t.Errorf("%v", second)
	}
	chooses(t, d, kept)
	holds(t, d, api.Held{Sector: 0, Data: framed(t, kept)})
}

// R5: answers hang on the disk's sectors, on no other disk, nor on a capacity.
func TestAlone(t *testing.T) {
	d, other := made(t), made(t)
	writes(t, d, block(4, 2), api.OK)
	writes(t, other, block(9, 3), api.OK)
	chooses(t, d, block(4, 2))
	chooses(t, other, block(9, 3))
	choosesNot(t, made(t), api.ErrNone)
	wide := make([]int, 1, 500)
	wide[0] = 2
	mayBe(t, block(4, wide...), api.OK)
}
