package tree_test

import (
	"fmt"
	"maps"
	"math"
	"slices"
	"strings"
	"testing"

	"tailrace/api"
	"tailrace/disk"
	"tailrace/frame"
	"tailrace/node"
	"tailrace/pool"
	"tailrace/tree"
)

// sectors makes a disk of n.
func sectors(t *testing.T, n int) *disk.Disk {
	t.Helper()
	d, e := disk.New(n)
	if e != api.OK {
		t.Fatalf("disk.New(%d): %d", n, e)
	}
	return d
}

// pooled makes a pool of a disk.
func pooled(t *testing.T, d *disk.Disk, frames int) *pool.Pool {
	t.Helper()
	p, e := pool.New(d, frames)
	if e != api.OK {
		t.Fatalf("pool.New(%d): %d", frames, e)
	}
	return p
}

// open must be done.
func open(t *testing.T, p *pool.Pool, at api.Super, s api.Space, epoch int) *tree.Tree {
	t.Helper()
	r, e := tree.Open(p, at, s, epoch)
	if e != api.OK || r == nil {
		t.Fatalf("Open(%v, %v, %d): %v, %d", at, s, epoch, r, e)
	}
	return r
}

// planted is a tree without entries, on a disk of n sectors.
func planted(t *testing.T, n, frames int) (*tree.Tree, *pool.Pool, *disk.Disk) {
	t.Helper()
	d := sectors(t, n)
	p := pooled(t, d, frames)
	return open(t, p, api.Super{}, api.Space{High: api.First}, 1), p, d
}

// again is the tree that r is, opened for the epoch behind r's.
func again(t *testing.T, r *tree.Tree, p *pool.Pool) *tree.Tree {
	t.Helper()
	return open(t, p, r.At(), r.Space(), r.At().Epoch+1)
}

func put(t *testing.T, r *tree.Tree, key, val string) {
	t.Helper()
	if e := r.Put(key, val); e != api.OK {
		t.Fatalf("Put(%.20q, %.20q): %d", key, val, e)
	}
}

// remove asks Delete for a key, and whether it had a value.
func remove(t *testing.T, r *tree.Tree, key string, want bool) {
	t.Helper()
	if is, e := r.Delete(key); is != want || e != api.OK {
		t.Fatalf("Delete(%.20q): %v, %d, not %v", key, is, e, want)
	}
}

// gets asks for a key's value.
func gets(t *testing.T, r *tree.Tree, key, want string) {
	t.Helper()
	if v, is, e := r.Get(key); v != want || !is || e != api.OK {
		t.Errorf("Get(%.20q): %.20q, %v, %d, not %.20q", key, v, is, e, want)
	}
}

// misses asks for keys that have no value.
func misses(t *testing.T, r *tree.Tree, keys ...string) {
	t.Helper()
	for _, k := range keys {
		if v, is, e := r.Get(k); v != "" || is || e != api.OK {
			t.Errorf("Get(%.20q): %.20q, %v, %d", k, v, is, e)
		}
	}
}

func take(t *testing.T, r *tree.Tree) int {
	t.Helper()
	page, e := r.Take()
	if e != api.OK {
		t.Fatalf("Take: %d", e)
	}
	return page
}

func drop(t *testing.T, r *tree.Tree, page int) {
	t.Helper()
	if e := r.Drop(page); e != api.OK {
		t.Fatalf("Drop(%d): %d", page, e)
	}
}

func nodeOf(t *testing.T, r *tree.Tree, page int) api.Node {
	t.Helper()
	n, e := r.Node(page)
	if e != api.OK {
		t.Fatalf("Node(%d): %d", page, e)
	}
	return n
}

// flush must be done.
func flush(t *testing.T, p *pool.Pool) {
	t.Helper()
	if e := p.Flush(); e != api.OK {
		t.Fatalf("Flush: %d", e)
	}
}

// at asks for the root, the height and the count, of an epoch.
func at(t *testing.T, r *tree.Tree, epoch, root, height, count int) {
	t.Helper()
	a := r.At()
	if a.Epoch != epoch || a.Root != root || a.Height != height || a.Count != count || len(a.Space) != 0 {
		t.Errorf("At: %v, not %d %d %d %d", a, epoch, root, height, count)
	}
}

func sameSpace(a, b api.Space) bool {
	return a.High == b.High && slices.Equal(a.Free, b.Free) && slices.Equal(a.Pending, b.Pending)
}

func sameSuper(a, b api.Super) bool {
	return a.Epoch == b.Epoch && a.Root == b.Root && a.Height == b.Height && a.Count == b.Count && slices.Equal(a.Space, b.Space)
}

func sameNode(a, b api.Node) bool {
	return a.Leaf == b.Leaf && slices.Equal(a.Keys, b.Keys) && slices.Equal(a.Vals, b.Vals) && slices.Equal(a.Kids, b.Kids)
}

// spaces asks for the lists.
func spaces(t *testing.T, r *tree.Tree, want api.Space) {
	t.Helper()
	if s := r.Space(); !sameSpace(s, want) {
		t.Errorf("Space: %v, not %v", s, want)
	}
}

// freed are pages that pend, of one epoch.
func freed(epoch int, l ...int) []api.Freed {
	var f []api.Freed
	for _, page := range l {
		f = append(f, api.Freed{Epoch: epoch, Page: page})
	}
	return f
}

func pendingPages(s api.Space) []int {
	var l []int
	for _, f := range s.Pending {
		l = append(l, f.Page)
	}
	return l
}

// walk goes through a tree's nodes from one of them on, of a height, whose keys
// are all between two (the second one none, if it is empty).
type walk struct {
	t       *testing.T
	r       *tree.Tree
	pages   []int
	entries map[string]string
}

func (w *walk) node(page, height int, from, to string, root bool) {
	w.t.Helper()
	n := nodeOf(w.t, w.r, page)
	w.pages = append(w.pages, page)
	if n.Leaf != (height == 1) {
		w.t.Fatalf("page %d of the height %d: %v", page, height, n.Leaf)
	}
	if e := node.Check(n); e != api.OK {
		w.t.Errorf("page %d: no node that may be: %d", page, e)
	}
	// P12.4
	if size := node.Size(n); size > 1000 || size <= 250 && !root {
		w.t.Errorf("page %d of the height %d has %d bytes", page, height, size)
	}
	if root && len(n.Keys) == 0 {
		w.t.Errorf("the root %d has no keys", page)
	}
	for i, k := range n.Keys {
		if k < from || to != "" && k >= to {
			w.t.Errorf("page %d: %q is not from %q to %q", page, k, from, to)
		}
		if n.Leaf {
			w.entries[k] = n.Vals[i]
		}
	}
	for i, kid := range n.Kids {
		low, high := from, to
		if i > 0 {
			low = n.Keys[i-1]
		}
		if i < len(n.Keys) {
			high = n.Keys[i]
		}
		w.node(kid, height-1, low, high, false)
	}
}

// nodes are the pages of a tree's nodes, rising, and its entries.
func nodes(t *testing.T, r *tree.Tree) ([]int, map[string]string) {
	t.Helper()
	w := &walk{t: t, r: r, entries: map[string]string{}}
	a := r.At()
	if (a.Root == 0) != (a.Height == 0) {
		t.Fatalf("At: %v", a)
	}
	if a.Height > 0 {
		w.node(a.Root, a.Height, "", "", true)
	}
	slices.Sort(w.pages)
	return w.pages, w.entries
}

// stands asks whether a tree is one, holds just the entries of a model, and
// whether each page is just one of a node's, known, or another one that is told.
func stands(t *testing.T, r *tree.Tree, model map[string]string, others ...int) {
	t.Helper()
	pages, entries := nodes(t, r)
	if !maps.Equal(entries, model) {
		t.Errorf("%d entries, not those %d that were laid", len(entries), len(model))
	}
	if c := r.At().Count; c != len(model) {
		t.Errorf("Count %d of %d", c, len(model))
	}
	s := r.Space()
	all := slices.Concat(pages, s.Free, pendingPages(s), others)
	slices.Sort(all)
	for i := range max(len(all), s.High-api.First) {
		if len(all) != s.High-api.First || all[i] != api.First+i {
			t.Fatalf("the pages of %v, nodes %v, others %v are not each there once", s, pages, others)
		}
	}
}

// holds asks Get for all entries of a model.
func holds(t *testing.T, r *tree.Tree, model map[string]string) {
	t.Helper()
	for k, v := range model {
		gets(t, r, k, v)
	}
}

// pack lays a node into a disk's sector.
func pack(t *testing.T, d *disk.Disk, page int, n api.Node) {
	t.Helper()
	kind, data, e := node.Encode(n)
	if e != api.OK {
		t.Fatalf("Encode(%v): %d", n, e)
	}
	packAs(t, d, page, page, kind, data)
}

// packAs lays a frame of a place into a disk's sector.
func packAs(t *testing.T, d *disk.Disk, page, place, kind int, data []byte) {
	t.Helper()
	b, e := frame.Pack(kind, place, data)
	if e != api.OK {
		t.Fatalf("Pack(%d, %d): %d", kind, place, e)
	}
	if e := d.Write(page, b); e != api.OK {
		t.Fatalf("Write(%d): %d", page, e)
	}
}

// sized is a text of n bytes that ends with a number, so that it is no other's.
func sized(n, i int) string {
	return strings.Repeat("x", max(0, n-4)) + fmt.Sprintf("%04d", i)[4-min(n, 4):]
}

// leafOf is a leaf of so many entries, of so many bytes each: two of how long
// its key and its value are, a key of ten, and a value.
func leafOf(first, count, bytes int) api.Node {
	n := api.Node{Leaf: true}
	for i := range count {
		n.Keys = append(n.Keys, fmt.Sprintf("%010d", first+i))
		n.Vals = append(n.Vals, strings.Repeat("v", bytes-12))
	}
	return n
}

func inner(keys []string, kids ...int) api.Node { return api.Node{Keys: keys, Kids: kids} }

// twoLeaves is a tree of the height 2, hand-made: the leaves 3 and 4, of five
// entries each, beneath the root 2. Its lists are of High 5.
func twoLeaves(t *testing.T, d *disk.Disk) (api.Super, api.Space, map[string]string) {
	t.Helper()
	l, r := leafOf(10, 5, 80), leafOf(20, 5, 80)
	pack(t, d, 2, inner([]string{r.Keys[0]}, 3, 4))
	pack(t, d, 3, l)
	pack(t, d, 4, r)
	model := map[string]string{}
	for _, n := range []api.Node{l, r} {
		for i, k := range n.Keys {
			model[k] = n.Vals[i]
		}
	}
	return api.Super{Epoch: 1, Root: 2, Height: 2, Count: 10}, api.Space{High: 5}, model
}

// key is one of twoLeaves.
func key(i int) string { return fmt.Sprintf("%010d", i) }

// The chapter's examples.
func TestExamples(t *testing.T) {
	r, _, _ := planted(t, 16, 3)
	put(t, r, "a", "1")
	gets(t, r, "a", "1")
	misses(t, r, "b")
	at(t, r, 1, 2, 1, 1)

	remove(t, r, "a", true)
	remove(t, r, "a", false)
	at(t, r, 1, 0, 0, 0)
	spaces(t, r, api.Space{High: 3, Free: []int{2}})

	if e := r.Put("", ""); e != api.ErrEntry {
		t.Errorf("Put of no key: %d", e)
	}
}

// refusesOpen asks for ErrArg, and no tree.
func refusesOpen(t *testing.T, p *pool.Pool, at api.Super, s api.Space, epoch int) {
	t.Helper()
	if r, e := tree.Open(p, at, s, epoch); r != nil || e != api.ErrArg {
		t.Errorf("Open(%v, %v, %d): %v, %d", at, s, epoch, r, e)
	}
}

// P12.1
func TestOpenOfNoPool(t *testing.T) {
	s := api.Space{High: 2}
	refusesOpen(t, nil, api.Super{}, s, 1)
	refusesOpen(t, &pool.Pool{}, api.Super{}, s, 1)
	refusesOpen(t, nil, api.Super{Height: -1}, api.Space{}, 0)
}

// P12.1
func TestOpenOfEpochs(t *testing.T) {
	p := pooled(t, sectors(t, 8), 2)
	for _, epoch := range []int{math.MinInt, -1 << 31, -1, 0, 1 << 31, 1<<32 + 1, math.MaxInt} {
		refusesOpen(t, p, api.Super{}, api.Space{High: 2}, epoch)
	}
	for _, epoch := range []int{1, 2, 1<<31 - 2, 1<<31 - 1} {
		r := open(t, p, api.Super{Epoch: 77}, api.Space{High: 2}, epoch)
		at(t, r, epoch, 0, 0, 0)
		put(t, r, "a", "1")
		at(t, r, epoch, 2, 1, 1)
	}
}

// P12.1
func TestOpenOfHeightsAndRoots(t *testing.T) {
	p := pooled(t, sectors(t, 8), 2)
	s := api.Space{High: 4}
	for _, h := range []int{math.MinInt, -1 << 32, -1, 21, 22, 1 << 32, math.MaxInt} {
		refusesOpen(t, p, api.Super{Root: 2, Height: h}, s, 1)
		refusesOpen(t, p, api.Super{Height: h}, s, 1)
	}
	for _, h := range []int{1, 2, 19, 20} {
		refusesOpen(t, p, api.Super{Root: 0, Height: h}, s, 1)
		at(t, open(t, p, api.Super{Root: 3, Height: h, Count: h}, s, 5), 5, 3, h, h)
	}
	for _, root := range []int{math.MinInt, -1, 1, 2, 3, 8, 1 << 32, math.MaxInt} {
		refusesOpen(t, p, api.Super{Root: root}, s, 1)
		at(t, open(t, p, api.Super{Root: root, Height: 1}, s, 5), 5, root, 1, 0)
	}
	at(t, open(t, p, api.Super{}, s, 1), 1, 0, 0, 0)
}

// P12.1
func TestOpenOfLists(t *testing.T) {
	p := pooled(t, sectors(t, 8), 2)
	f := func(epoch, page int) api.Freed { return api.Freed{Epoch: epoch, Page: page} }
	bad := []api.Space{
		{},
		{High: math.MinInt}, {High: -1}, {High: 1}, {High: 9}, {High: math.MaxInt},
		{High: 8, Free: []int{1}}, {High: 5, Free: []int{5}}, {High: 8, Free: []int{8}},
		{High: 8, Free: []int{3, 2}}, {High: 8, Free: []int{3, 3}},
		{High: 8, Pending: []api.Freed{f(1, 1)}}, {High: 5, Pending: []api.Freed{f(1, 5)}},
		{High: 8, Pending: []api.Freed{f(-1, 3)}}, {High: 8, Pending: []api.Freed{f(2, 3), f(1, 4)}},
		{High: 8, Pending: []api.Freed{f(1, 3), f(1, 3)}},
		{High: 8, Free: []int{3}, Pending: []api.Freed{f(1, 3)}},
	}
	for _, s := range bad {
		refusesOpen(t, p, api.Super{}, s, 1)
	}
	good := []api.Space{
		{High: 2}, {High: 3}, {High: 8},
		{High: 8, Free: []int{2, 3, 7}},
		{High: 8, Pending: []api.Freed{f(0, 7), f(0, 2), f(9, 3)}},
		{High: 8, Free: []int{2, 4}, Pending: []api.Freed{f(1, 3), f(1, 7)}},
	}
	for _, s := range good {
		spaces(t, open(t, p, api.Super{}, s, 1), s)
	}
}

// P12.1: the lists are asked for the disk's size, not for another number.
func TestOpenOfListsOfTheDisk(t *testing.T) {
	for _, n := range []int{2, 3, 64, api.MaxSectors} {
		p := pooled(t, sectors(t, n), 1)
		spaces(t, open(t, p, api.Super{}, api.Space{High: n}, 1), api.Space{High: n})
		refusesOpen(t, p, api.Super{}, api.Space{High: n + 1}, 1)
	}
}

// P12.1: Open asks no page; so it needs no power.
func TestOpenReadsNothing(t *testing.T) {
	d := sectors(t, 8)
	d.Fuse(0)
	d.Flush()
	p := pooled(t, d, 2)
	r := open(t, p, api.Super{Root: 5, Height: 3, Count: 4}, api.Space{High: 8}, 2)
	at(t, r, 2, 5, 3, 4)
	if l := p.Pages(); !slices.Equal(l, []int{-1, -1}) {
		t.Errorf("Pages: %v", l)
	}
	if _, _, e := r.Get("a"); e != api.ErrDown {
		t.Errorf("Get without power: %d", e)
	}
}

// P12.1: of Count entries, whatever there is.
func TestCountIsWhatOpenWasTold(t *testing.T) {
	p := pooled(t, sectors(t, 8), 2)
	for _, n := range []int{0, 7, -3, 1<<31 - 1, math.MinInt, math.MaxInt - 1} {
		r := open(t, p, api.Super{Count: n}, api.Space{High: 2}, 1)
		at(t, r, 1, 0, 0, n)
		put(t, r, "a", "")
		at(t, r, 1, 2, 1, n+1)
		remove(t, r, "a", true)
		at(t, r, 1, 0, 0, n)
	}
}

// P12.2
func TestGet(t *testing.T) {
	r, _, _ := planted(t, 16, 3)
	strange := []string{"", "a", "\x00", "\xff", strings.Repeat("k", 120), strings.Repeat("k", 121), strings.Repeat("k", 5000)}
	misses(t, r, strange...)
	at(t, r, 1, 0, 0, 0)
	for _, k := range []string{"c", "e", "g"} {
		put(t, r, k, "of "+k)
	}
	misses(t, r, strange...)
	misses(t, r, "b", "cc", "d", "f", "h", "C")
	for _, k := range []string{"c", "e", "g"} {
		gets(t, r, k, "of "+k)
	}
	put(t, r, "e", "2")
	gets(t, r, "e", "2")
	put(t, r, "e", "")
	gets(t, r, "e", "")
	remove(t, r, "e", true)
	misses(t, r, "e")
	put(t, r, "e", "3")
	gets(t, r, "e", "3")
	spaces(t, r, api.Space{High: 3})
}

// P12.2, in a tree of the height 2: ahead of all, behind all, at the key that
// leads to a leaf, and just ahead of that.
func TestGetBesideTheKeys(t *testing.T) {
	d := sectors(t, 16)
	s, l, model := twoLeaves(t, d)
	r := open(t, pooled(t, d, 2), s, l, 2)
	holds(t, r, model)
	misses(t, r, "", "0", key(9), key(15), key(19), key(20)+"\x00", key(25), "9")
	stands(t, r, model)
	spaces(t, r, l)
}

// refusesPut asks for ErrEntry, which leaves the tree as it was.
func refusesPut(t *testing.T, r *tree.Tree, key, val string) {
	t.Helper()
	a, s := r.At(), r.Space()
	if e := r.Put(key, val); e != api.ErrEntry {
		t.Errorf("Put of %d and %d bytes: %d", len(key), len(val), e)
	}
	if !sameSuper(r.At(), a) || !sameSpace(r.Space(), s) {
		t.Errorf("Put that was refused: %v, %v, not %v, %v", r.At(), r.Space(), a, s)
	}
}

// P12.2, P12.5
func TestPutOfEntriesThatMayBe(t *testing.T) {
	r, _, _ := planted(t, 64, 3)
	model := map[string]string{}
	long := func(n int) string { return strings.Repeat("k", n) }
	for _, kn := range []int{0, 121, 122, 255, 256, 257, 1000} {
		for _, vn := range []int{0, 1, 100, 101} {
			refusesPut(t, r, long(kn), long(vn))
		}
	}
	for _, kn := range []int{1, 2, 119, 120} {
		for _, vn := range []int{101, 102, 255, 256, 300, 1000} {
			refusesPut(t, r, long(kn), long(vn))
		}
		for _, vn := range []int{100, 0, 99, 1, 100} {
			put(t, r, long(kn), long(vn))
			model[long(kn)] = long(vn)
			holds(t, r, model)
			stands(t, r, model)
			refusesPut(t, r, "", "")
			refusesPut(t, r, long(kn), long(101))
			holds(t, r, model)
		}
	}
}

// P12.2: keys are any bytes, in the order in which Go compares texts.
func TestKeysOfAllBytes(t *testing.T) {
	r, _, _ := planted(t, 64, 2)
	model := map[string]string{}
	for i := range 256 {
		for _, k := range []string{string([]byte{byte(i)}), string([]byte{byte(i), 0}), string([]byte{0, byte(i), 255})} {
			put(t, r, k, k)
			model[k] = k
		}
	}
	stands(t, r, model)
	holds(t, r, model)
	if h := r.At().Height; h < 2 {
		t.Errorf("a height of %d", h)
	}
}

// orders are numbers below n, in orders of their own.
func orders(n int) map[string][]int {
	rising, falling, mixed := make([]int, n), make([]int, n), make([]int, n)
	inside := make([]int, n)
	for i := range n {
		rising[i], falling[i], mixed[i] = i, n-1-i, i*7919%n
		// From the middle on to both sides.
		inside[i] = n/2 + (i+1)/2*(1-2*(i%2))
		inside[i] = (inside[i] + n) % n
	}
	return map[string][]int{"rising": rising, "falling": falling, "mixed": mixed, "inside": inside}
}

// shapes are how long keys and values are.
func shapes() map[string]func(i int) (string, string) {
	return map[string]func(i int) (string, string){
		"short": func(i int) (string, string) { return sized(4, i), "" },
		"long":  func(i int) (string, string) { return fmt.Sprintf("%04d", i) + strings.Repeat("k", 116), sized(100, i) },
		"keys":  func(i int) (string, string) { return fmt.Sprintf("%04d", i) + strings.Repeat("k", 116), "" },
		"mixed": func(i int) (string, string) {
			return fmt.Sprintf("%04d", i) + strings.Repeat("k", i*37%117), sized(i*53%101, i)
		},
		"uneven": func(i int) (string, string) {
			return fmt.Sprintf("%04d", i) + strings.Repeat("k", i%2*116), sized(i%3*50, i)
		},
	}
}

// P12.2, P12.3, P12.4, P12.6: entries are laid in an order, and taken away in
// each one, in one epoch; what stands is asked behind each call.
func TestGrowsAndShrinks(t *testing.T) {
	const n = 211
	for shape, entry := range shapes() {
		for in, laid := range orders(n) {
			for out, gone := range orders(n) {
				if shape != "mixed" && in != out && out != "mixed" {
					continue
				}
				t.Run(shape+" "+in+" "+out, func(t *testing.T) { growsAndShrinks(t, entry, laid, gone) })
			}
		}
	}
}

func growsAndShrinks(t *testing.T, entry func(i int) (string, string), in, out []int) {
	r, _, _ := planted(t, 400, 3)
	model := map[string]string{}
	heights := []int{0}
	asked := func(i int) {
		t.Helper()
		if h := r.At().Height; h != heights[len(heights)-1] {
			heights = append(heights, h)
			stands(t, r, model)
		}
		if i%5 == 0 {
			stands(t, r, model)
		}
		if s := r.Space(); len(s.Pending) != 0 {
			t.Fatalf("fresh pages pend: %v", s)
		}
	}
	for i, k := range in {
		key, val := entry(k)
		put(t, r, key, val)
		model[key] = val
		asked(i)
		gets(t, r, key, val)
	}
	holds(t, r, model)
	top := r.At().Height
	for i, k := range out {
		key, _ := entry(k)
		remove(t, r, key, true)
		delete(model, key)
		asked(i)
		misses(t, r, key)
	}
	at(t, r, 1, 0, 0, 0)
	if s := r.Space(); len(s.Free) != s.High-api.First {
		t.Errorf("not all pages are free: %v", s)
	}
	// The height goes up, and down again, by one each time, through 2 at least.
	for i := 1; i < len(heights); i++ {
		if d := heights[i] - heights[i-1]; d != 1 && d != -1 {
			t.Errorf("heights %v", heights)
		}
	}
	if top < 2 || slices.Max(heights) < top {
		t.Errorf("heights %v", heights)
	}
}

// P12.1, P12.4: trees of the heights 0, 1, 2 and 3 are opened, and each key of
// them is laid anew, and taken away.
func TestHeights(t *testing.T) {
	met := map[int]bool{}
	for _, n := range []int{0, 1, 2, 8, 9, 40, 120, 300} {
		r, p, _ := planted(t, 900, 4)
		model := map[string]string{}
		for i := range n {
			k, v := shapes()["keys"](i * 7919 % 1000)
			put(t, r, k, v)
			model[k] = v
		}
		stands(t, r, model)
		met[r.At().Height] = true
		for k := range model {
			s := again(t, r, p)
			remove(t, s, k, true)
			misses(t, s, k)
			put(t, s, k, "new")
			gets(t, s, k, "new")
			gets(t, r, k, "")
			if a, b := s.At(), r.At(); a.Count != b.Count {
				t.Fatalf("Count %d, not %d", a.Count, b.Count)
			}
			// The first tree's pages stay, so that the next one may take these.
		}
		stands(t, r, model)
	}
	for h := range 4 {
		if !met[h] {
			t.Errorf("no tree of the height %d", h)
		}
	}
}

// P12.4: a leaf of 1000 bytes fits; of one byte more it is split.
func TestLeafThatJustFits(t *testing.T) {
	r, _, _ := planted(t, 16, 2)
	model := map[string]string{}
	// 2 bytes, 9 entries of 100, and one of 98.
	for i := range 10 {
		k, v := fmt.Sprintf("k%d", i), strings.Repeat("v", 96)
		if i == 9 {
			v = v[:94]
		}
		put(t, r, k, v)
		model[k] = v
	}
	at(t, r, 1, 2, 1, 10)
	if n := nodeOf(t, r, 2); node.Size(n) != 1000 {
		t.Fatalf("%d bytes", node.Size(n))
	}
	// A longer value of a key that is there does it too.
	model["k4"] = strings.Repeat("w", 97)
	put(t, r, "k4", model["k4"])
	stands(t, r, model)
	if a := r.At(); a.Height != 2 || a.Count != 10 {
		t.Errorf("At: %v", a)
	}
	// And shorter ones join both parts again.
	for i := range 10 {
		k := fmt.Sprintf("k%d", i)
		put(t, r, k, "")
		model[k] = ""
		stands(t, r, model)
	}
	if a := r.At(); a.Height != 1 || a.Count != 10 {
		t.Errorf("At: %v", a)
	}
	spaces(t, r, api.Space{High: 5, Free: without([]int{2, 3, 4}, r.At().Root)})
}

// without is a list without a number.
func without(l []int, n int) []int {
	return slices.DeleteFunc(slices.Clone(l), func(i int) bool { return i == n })
}

// P12.4: a low leaf is joined with a neighbour, and the root that has one kid
// goes.
func TestLeavesAreJoined(t *testing.T) {
	for _, first := range []int{10, 20} {
		d := sectors(t, 16)
		s, l, model := twoLeaves(t, d)
		r := open(t, pooled(t, d, 2), s, l, 2)
		for i := range 2 {
			remove(t, r, key(first+i), true)
			delete(model, key(first+i))
			stands(t, r, model)
		}
		if a := r.At(); a.Height != 1 || a.Count != 8 {
			t.Errorf("At: %v", a)
		}
		// All three pages that were not fresh pend, and no other one does.
		if got := pendingPages(r.Space()); !sameMembers(got, []int{2, 3, 4}) {
			t.Errorf("%v pend", got)
		}
	}
}

func sameMembers(a, b []int) bool {
	a, b = slices.Clone(a), slices.Clone(b)
	slices.Sort(a)
	slices.Sort(b)
	return slices.Equal(a, b)
}

// P12.4: entries go over from a neighbour that has too many to be joined.
func TestEntriesGoOver(t *testing.T) {
	for _, low := range []int{0, 1} {
		d := sectors(t, 16)
		leaves := []api.Node{leafOf(10, 12, 80), leafOf(30, 12, 80)}
		leaves[low].Keys, leaves[low].Vals = leaves[low].Keys[:4], leaves[low].Vals[:4]
		pack(t, d, 2, inner([]string{key(30)}, 3, 4))
		model := map[string]string{}
		for i, n := range leaves {
			pack(t, d, 3+i, n)
			for j, k := range n.Keys {
				model[k] = n.Vals[j]
			}
		}
		r := open(t, pooled(t, d, 2), api.Super{Root: 2, Height: 2, Count: 16}, api.Space{High: 5}, 2)
		remove(t, r, leaves[low].Keys[1], true)
		delete(model, leaves[low].Keys[1])
		stands(t, r, model)
		holds(t, r, model)
		if a := r.At(); a.Height != 2 || a.Count != 15 {
			t.Errorf("At: %v", a)
		}
		for _, kid := range nodeOf(t, r, r.At().Root).Kids {
			if n := len(nodeOf(t, r, kid).Keys); n < 6 {
				t.Errorf("%d keys", n)
			}
		}
	}
}

// P12.4: where a longer key comes between two leaves from which one entry is
// taken away, the inner node above them may have no room: a Delete splits it.
func TestDeleteThatSplits(t *testing.T) {
	d := sectors(t, 64)
	model := map[string]string{}
	long := func(s string, n int) string { return s + strings.Repeat("k", n-len(s)) }
	// Between the second leaf and the third one stands a key of one byte; of all
	// others those that stand there have 100 bytes, and 120.
	between := []string{long("b0", 100), "c"}
	leaves := [][]string{
		{long("a0", 120), long("a1", 120)},
		{"b1", "b2", "b3"},
		{long("c0", 120), long("c1", 120), long("c2", 120), long("c3", 120)},
	}
	for i := range 7 {
		s := "d" + string(rune('0'+i))
		between = append(between, long(s, 120))
		leaves = append(leaves, []string{long(s, 120), long(s+"l", 120)})
	}
	var kids []int
	for i, keys := range leaves {
		n := api.Node{Leaf: true, Keys: keys}
		for _, k := range keys {
			model[k] = strings.Repeat("v", 100)
			n.Vals = append(n.Vals, model[k])
		}
		pack(t, d, 3+i, n)
		kids = append(kids, 3+i)
	}
	root := inner(between, kids...)
	if s := node.Size(root); s > 1000 || s+119 <= 1000 {
		t.Fatalf("a root of %d bytes", s)
	}
	pack(t, d, 2, root)
	r := open(t, pooled(t, d, 3), api.Super{Root: 2, Height: 2, Count: len(model)}, api.Space{High: 13}, 2)
	stands(t, r, model)
	remove(t, r, "b2", true)
	delete(model, "b2")
	stands(t, r, model)
	holds(t, r, model)
	if a := r.At(); a.Height != 3 {
		t.Errorf("At: %v", a)
	}
	for _, k := range slices.Sorted(maps.Keys(model)) {
		remove(t, r, k, true)
		delete(model, k)
		stands(t, r, model)
	}
	at(t, r, 2, 0, 0, 0)
}

// P12.3: in one epoch a page is taken once, and written where it lies then.
func TestFreshPagesAreWritten(t *testing.T) {
	r, _, _ := planted(t, 8, 2)
	for i := range 8 {
		put(t, r, key(i), "v")
		at(t, r, 1, 2, 1, i+1)
		spaces(t, r, api.Space{High: 3})
	}
	remove(t, r, key(3), true)
	spaces(t, r, api.Space{High: 3})
}

// P12.3: in the next epoch a page is taken for each node that changes, and the
// old one is given; other nodes stay.
func TestPagesAreCopied(t *testing.T) {
	d := sectors(t, 16)
	s, l, model := twoLeaves(t, d)
	p := pooled(t, d, 2)
	r := open(t, p, s, l, 7)
	other := strings.Repeat("w", 68)
	put(t, r, key(11), other)
	model[key(11)] = other
	stands(t, r, model)
	if got := pendingPages(r.Space()); !sameMembers(got, []int{2, 3}) {
		t.Errorf("%v pend", got)
	}
	for _, f := range r.Space().Pending {
		if f.Epoch != 7 {
			t.Errorf("pends of %d", f.Epoch)
		}
	}
	if s := r.Space(); s.High != 7 || len(s.Free) != 0 {
		t.Errorf("Space: %v", s)
	}
	if n := nodeOf(t, r, r.At().Root); n.Kids[1] != 4 {
		t.Errorf("Kids: %v", n.Kids)
	}
	// Both are fresh now: nothing is taken for them again.
	was := r.Space()
	a := r.At()
	put(t, r, key(12), other)
	put(t, r, key(15), "")
	remove(t, r, key(13), true)
	put(t, r, key(13), other)
	spaces(t, r, was)
	if r.At().Root != a.Root {
		t.Errorf("At: %v, not %v", r.At(), a)
	}
	// The other leaf changes: just that is copied.
	put(t, r, key(21), other)
	if got := pendingPages(r.Space()); !sameMembers(got, []int{2, 3, 4}) || r.At().Root != a.Root {
		t.Errorf("%v pend; %v", got, r.At())
	}
}

// P12.3: a low leaf's neighbour whose entries all stay with it is not copied.
func TestNeighbourThatStays(t *testing.T) {
	d := sectors(t, 16)
	ahead, behind := leafOf(10, 6, 82), leafOf(20, 4, 72)
	// The half of all bytes lies in the last entry of the leaf ahead.
	ahead.Keys = append(ahead.Keys, key(16)+strings.Repeat("k", 110))
	ahead.Vals = append(ahead.Vals, strings.Repeat("v", 100))
	pack(t, d, 2, inner([]string{key(20)}, 3, 4))
	pack(t, d, 3, ahead)
	pack(t, d, 4, behind)
	r := open(t, pooled(t, d, 2), api.Super{Root: 2, Height: 2, Count: 11}, api.Space{High: 5}, 2)
	put(t, r, key(21), strings.Repeat("w", 60))
	root := nodeOf(t, r, r.At().Root)
	if !slices.Equal(root.Keys, []string{key(20)}) || root.Kids[0] != 3 || root.Kids[1] == 4 {
		t.Errorf("the root %v", root)
	}
	if got := pendingPages(r.Space()); !sameMembers(got, []int{2, 4}) {
		t.Errorf("%v pend", got)
	}
}

// P12.3: where no node changes no page is taken.
func TestNothingIsCopiedWhereNothingChanges(t *testing.T) {
	d := sectors(t, 5)
	s, l, model := twoLeaves(t, d)
	p := pooled(t, d, 2)
	r := open(t, p, s, l, 7)
	for k, v := range model {
		put(t, r, k, v)
		gets(t, r, k, v)
		remove(t, r, k+"x", false)
		nodeOf(t, r, 4)
	}
	remove(t, r, "", false)
	remove(t, r, strings.Repeat("k", 121), false)
	at(t, r, 7, 2, 2, 10)
	spaces(t, r, l)
	if got := p.Dirty(); len(got) != 0 {
		t.Errorf("dirty: %v", got)
	}
	stands(t, r, model)
}

// P12.3: pages are taken as space.Take does: free ones, the first one ahead, and
// then from High on, up to the disk's last one.
func TestPagesThatAreTaken(t *testing.T) {
	p := pooled(t, sectors(t, 9), 2)
	r := open(t, p, api.Super{}, api.Space{High: 8, Free: []int{4, 6}, Pending: freed(0, 2, 3, 5, 7)}, 1)
	put(t, r, "a", "1")
	at(t, r, 1, 4, 1, 1)
	for _, want := range []int{6, 8} {
		if page := take(t, r); page != want {
			t.Errorf("Take: %d, not %d", page, want)
		}
	}
	spaces(t, r, api.Space{High: 9, Pending: freed(0, 2, 3, 5, 7)})
	if page, e := r.Take(); page != 0 || e != api.ErrFull {
		t.Errorf("Take: %d, %d", page, e)
	}
}

// P12.3: each node lies in its page, as a frame of its kind, behind a flush.
func TestNodesAreFrames(t *testing.T) {
	r, p, d := planted(t, 64, 3)
	for i := range 60 {
		put(t, r, sized(30, i), sized(30, i))
	}
	flush(t, p)
	pages, _ := nodes(t, r)
	if len(pages) < 4 {
		t.Fatalf("nodes %v", pages)
	}
	for _, page := range pages {
		n := nodeOf(t, r, page)
		kind, data, e := node.Encode(n)
		if e != api.OK {
			t.Fatalf("Encode: %d", e)
		}
		want, _ := frame.Pack(kind, page, data)
		if got, e := d.Read(page); !slices.Equal(got, want) || e != api.OK {
			t.Errorf("page %d: %v, %d, not %v", page, got, e, want)
		}
	}
}

// P12.3, P12.7, over many epochs: what lies in a page that is not fresh stays,
// what is given pends, of its epoch, and what is not needed any more is free.
func TestEpochs(t *testing.T) {
	for _, frames := range []int{1, 2, 50} {
		d := sectors(t, 600)
		p := pooled(t, d, frames)
		r := open(t, p, api.Super{}, api.Space{High: 2}, 1)
		model := map[string]string{}
		at := 1
		for epoch := 1; epoch <= 12; epoch++ {
			old, _ := nodes(t, r)
			was := contents(t, p, old)
			first := r.Space()
			for range 40 {
				at = at * 7919 % 10007
				k, v := shapes()["mixed"](at % 90)
				if _, is := model[k]; at%5 < 2 {
					remove(t, r, k, is)
					delete(model, k)
				} else {
					put(t, r, k, v)
					model[k] = v
				}
				// No old page is another one, and those that no node has pend.
				now, _ := nodes(t, r)
				if !maps.EqualFunc(contents(t, p, old), was, slices.Equal) {
					t.Fatalf("epoch %d: an old page is written", epoch)
				}
				given := slices.DeleteFunc(slices.Clone(old), func(n int) bool { return slices.Contains(now, n) })
				s := r.Space()
				pends := s.Pending[len(first.Pending):]
				if !slices.Equal(s.Pending[:len(first.Pending)], first.Pending) || !sameMembers(given, pendingPages(api.Space{Pending: pends})) {
					t.Fatalf("epoch %d: %v pends, given %v", epoch, s.Pending, given)
				}
				for _, f := range pends {
					if f.Epoch != epoch {
						t.Fatalf("epoch %d: %v pends", epoch, f)
					}
				}
			}
			stands(t, r, model)
			holds(t, r, model)
			flush(t, p)
			if got := onDisk(t, d, old); !maps.EqualFunc(got, was, slices.Equal) {
				t.Fatalf("epoch %d: an old page is written on the disk", epoch)
			}
			r = again(t, r, p)
		}
	}
}

// contents are what pages hold, by a pool.
func contents(t *testing.T, p *pool.Pool, pages []int) map[int][]byte {
	t.Helper()
	m := map[int][]byte{}
	for _, n := range pages {
		b, e := p.Get(n)
		if e != api.OK {
			t.Fatalf("Get(%d): %d", n, e)
		}
		m[n] = b
	}
	return m
}

// onDisk are what pages hold, by the disk.
func onDisk(t *testing.T, d *disk.Disk, pages []int) map[int][]byte {
	t.Helper()
	m := map[int][]byte{}
	for _, n := range pages {
		b, e := d.Read(n)
		if e != api.OK {
			t.Fatalf("Read(%d): %d", n, e)
		}
		m[n] = b
	}
	return m
}

// P12.3: a disk without a page left tells ErrFull.
func TestFull(t *testing.T) {
	for sectors := 2; sectors < 20; sectors++ {
		r, _, _ := planted(t, sectors, 2)
		model := map[string]string{}
		for i := 0; ; i++ {
			k, v := shapes()["long"](i)
			if e := r.Put(k, v); e == api.ErrFull {
				break
			} else if e != api.OK {
				t.Fatalf("Put: %d", e)
			}
			model[k] = v
			stands(t, r, model)
		}
		lost(t, r, api.ErrFull)
		// Of 221 bytes each: four have room in a leaf.
		if min := 4 * (sectors - 2); sectors < 4 && len(model) != min {
			t.Errorf("%d sectors: %d entries", sectors, len(model))
		}
	}
}

// P12.3: a page that is not fresh can't be changed where none is left, and just
// then.
func TestFullOfOldPages(t *testing.T) {
	calls := map[string]func(r *tree.Tree) api.Errno{
		"Put":     func(r *tree.Tree) api.Errno { return r.Put(key(11), "new") },
		"Put new": func(r *tree.Tree) api.Errno { return r.Put(key(15), "new") },
		"Delete": func(r *tree.Tree) api.Errno {
			_, e := r.Delete(key(11))
			return e
		},
		"Take": func(r *tree.Tree) api.Errno {
			if _, e := r.Take(); e != api.OK {
				return e
			}
			_, e := r.Take()
			return e
		},
	}
	for name, call := range calls {
		for left := range 3 {
			d := sectors(t, 5+left)
			s, l, model := twoLeaves(t, d)
			r := open(t, pooled(t, d, 2), s, l, 2)
			holds(t, r, model)
			want := api.ErrFull
			if left == 2 {
				want = api.OK
			}
			if e := call(r); e != want {
				t.Errorf("%s with %d left: %d, not %d", name, left, e, want)
			}
			if want != api.OK {
				lost(t, r, want)
			}
		}
	}
}

// lost asks whether a tree tells one error, whatever is asked.
func lost(t *testing.T, r *tree.Tree, want api.Errno) {
	t.Helper()
	for range 2 {
		for _, k := range []string{"a", key(11), "", strings.Repeat("k", 121)} {
			if v, is, e := r.Get(k); v != "" || is || e != want {
				t.Errorf("Get: %q, %v, %d, not %d", v, is, e, want)
			}
			if e := r.Put(k, "1"); e != want {
				t.Errorf("Put: %d, not %d", e, want)
			}
			if is, e := r.Delete(k); is || e != want {
				t.Errorf("Delete: %v, %d, not %d", is, e, want)
			}
		}
		if e := r.Put("a", strings.Repeat("v", 101)); e != want {
			t.Errorf("Put: %d, not %d", e, want)
		}
		for _, page := range []int{-1, 0, 1, 2, 3, 1 << 32} {
			if n, e := r.Node(page); !sameNode(n, api.Node{}) || e != want {
				t.Errorf("Node(%d): %v, %d, not %d", page, n, e, want)
			}
			if e := r.Drop(page); e != want {
				t.Errorf("Drop(%d): %d, not %d", page, e, want)
			}
		}
		if page, e := r.Take(); page != 0 || e != want {
			t.Errorf("Take: %d, %d, not %d", page, e, want)
		}
		r.At()
		r.Space()
	}
}

// calls are all that may be asked of a tree of twoLeaves, which reads or takes
// a page, or gives one away.
func calls() map[string]func(r *tree.Tree) api.Errno {
	return map[string]func(r *tree.Tree) api.Errno{
		"Get": func(r *tree.Tree) api.Errno {
			v, is, e := r.Get(key(11))
			if e != api.OK && (v != "" || is) {
				return -1
			}
			return e
		},
		"Put": func(r *tree.Tree) api.Errno { return r.Put(key(11), "new") },
		"Delete": func(r *tree.Tree) api.Errno {
			is, e := r.Delete(key(11))
			if e != api.OK && is {
				return -1
			}
			return e
		},
		"Node": func(r *tree.Tree) api.Errno {
			n, e := r.Node(2)
			if e == api.OK {
				n, e = r.Node(3)
			}
			if e != api.OK && !sameNode(n, api.Node{}) {
				return -1
			}
			return e
		},
	}
}

// P12.5, and a page's node: bytes that are turned, each of them.
func TestPagesThatAreTurned(t *testing.T) {
	for name, call := range calls() {
		for _, page := range []int{2, 3} {
			d := sectors(t, 16)
			s, l, _ := twoLeaves(t, d)
			b, _ := d.Read(page)
			for i := range b {
				by := byte(1 << (i % 8))
				d.Turn(page, i, by)
				r := open(t, pooled(t, d, 3), s, l, 2)
				if e := call(r); e != api.ErrPage {
					t.Errorf("%s, byte %d of page %d turned: %d", name, i, page, e)
				}
				d.Turn(page, i, by)
				if i%50 == 0 {
					lost(t, r, api.ErrPage)
				}
			}
			r := open(t, pooled(t, d, 3), s, l, 2)
			if e := call(r); e != api.OK {
				t.Errorf("%s: %d", name, e)
			}
		}
	}
}

// P12.5, and a page's node: frames that are none of a node, or of another place.
func TestPagesOfNoNode(t *testing.T) {
	leaf := leafOf(10, 5, 80)
	_, leafData, _ := node.Encode(leaf)
	root := inner([]string{key(20)}, 3, 4)
	_, rootData, _ := node.Encode(root)
	spoil := map[string]func(d *disk.Disk, page int, data []byte, kind int){
		"none":        func(d *disk.Disk, page int, data []byte, kind int) { d.Write(page, nil) },
		"short":       func(d *disk.Disk, page int, data []byte, kind int) { d.Write(page, []byte{byte(kind)}) },
		"other place": func(d *disk.Disk, page int, data []byte, kind int) { packAs(t, d, page, page+1, kind, data) },
		"super":       func(d *disk.Disk, page int, data []byte, kind int) { packAs(t, d, page, page, api.FSuper, data) },
		"space":       func(d *disk.Disk, page int, data []byte, kind int) { packAs(t, d, page, page, api.FSpace, data) },
		"other kind": func(d *disk.Disk, page int, data []byte, kind int) {
			packAs(t, d, page, page, api.FLeaf+api.FInner-kind, data)
		},
		"cut": func(d *disk.Disk, page int, data []byte, kind int) {
			packAs(t, d, page, page, kind, data[:len(data)-1])
		},
		"longer": func(d *disk.Disk, page int, data []byte, kind int) {
			packAs(t, d, page, page, kind, append(slices.Clone(data), 0))
		},
		"no data": func(d *disk.Disk, page int, data []byte, kind int) { packAs(t, d, page, page, kind, nil) },
	}
	for how, spoiled := range spoil {
		for name, call := range calls() {
			for _, page := range []int{2, 3} {
				d := sectors(t, 16)
				s, l, _ := twoLeaves(t, d)
				data, kind := rootData, api.FInner
				if page == 3 {
					data, kind = leafData, api.FLeaf
				}
				spoiled(d, page, data, kind)
				r := open(t, pooled(t, d, 3), s, l, 2)
				if e := call(r); e != api.ErrPage {
					t.Errorf("%s: %s, page %d: %d", how, name, page, e)
				}
				lost(t, r, api.ErrPage)
			}
		}
	}
}

// P12.5, and a page's node: a leaf where an inner node should be, and the other
// way round. Node tells either.
func TestPagesOfTheOtherKind(t *testing.T) {
	for name, call := range calls() {
		for _, height := range []int{1, 3, 20} {
			d := sectors(t, 16)
			s, l, _ := twoLeaves(t, d)
			s.Height = height
			r := open(t, pooled(t, d, 3), s, l, 2)
			want := api.ErrPage
			if name == "Node" {
				want = api.OK
			}
			if e := call(r); e != want {
				t.Errorf("%s, height %d: %d", name, height, e)
			}
			if want != api.OK {
				lost(t, r, want)
			}
		}
	}
	// A neighbour that is asked is held to its kind too.
	d := sectors(t, 16)
	s, l, _ := twoLeaves(t, d)
	pack(t, d, 4, inner([]string{"m"}, 3, 3))
	r := open(t, pooled(t, d, 3), s, l, 2)
	remove(t, r, key(10), true)
	if is, e := r.Delete(key(11)); is || e != api.ErrPage {
		t.Errorf("Delete beside an inner node: %v, %d", is, e)
	}
	lost(t, r, api.ErrPage)
}

// P12.5: the pool's errors are told as they are; they stay, also where what was
// wrong is not any more.
func TestErrorsOfThePool(t *testing.T) {
	for name, call := range calls() {
		// The power is gone.
		d := sectors(t, 16)
		s, l, _ := twoLeaves(t, d)
		d.Flush()
		r := open(t, pooled(t, d, 3), s, l, 2)
		d.Fuse(0)
		d.Flush()
		if e := call(r); e != api.ErrDown {
			t.Errorf("%s without power: %d", name, e)
		}
		d.Restart(nil)
		lost(t, r, api.ErrDown)

		// All frames are pinned.
		p := pooled(t, d, 1)
		p.Pin(0)
		r = open(t, p, s, l, 2)
		if e := call(r); e != api.ErrPinned {
			t.Errorf("%s with all pinned: %d", name, e)
		}
		p.Unpin(0)
		lost(t, r, api.ErrPinned)

		if name == "Node" {
			continue
		}
		// The root, or a kid, is no sector.
		for _, page := range []int{-1, 16, 1 << 30} {
			r = open(t, pooled(t, d, 2), api.Super{Root: page, Height: 1}, l, 2)
			if e := call(r); e != api.ErrDisk {
				t.Errorf("%s of the root %d: %d", name, page, e)
			}
			lost(t, r, api.ErrDisk)
			if page < 0 {
				continue
			}
			pack(t, d, 2, inner([]string{"m"}, page, 4))
			r = open(t, pooled(t, d, 2), s, l, 2)
			if e := call(r); e != api.ErrDisk {
				t.Errorf("%s of the kid %d: %d", name, page, e)
			}
			lost(t, r, api.ErrDisk)
		}
	}
}

// P12.5: also where a page is put: the frame that goes can't be written, or none
// goes.
func TestErrorsOfPuts(t *testing.T) {
	r, p, d := planted(t, 16, 1)
	p.Pin(0)
	if e := r.Put("a", "1"); e != api.ErrPinned {
		t.Errorf("Put: %d", e)
	}
	p.Unpin(0)
	lost(t, r, api.ErrPinned)

	r = open(t, p, api.Super{}, api.Space{High: 2}, 1)
	put(t, r, "a", "1")
	page := take(t, r)
	d.Fuse(0)
	if e := p.Put(page, []byte("b")); e != api.ErrDown {
		t.Fatalf("Put: %d", e)
	}
	// The root is at hand: no power is asked for.
	gets(t, r, "a", "1")
	put(t, r, "b", "2")
	gets(t, r, "b", "2")
	if n, e := r.Node(page); e != api.ErrDown {
		t.Errorf("Node: %v, %d", n, e)
	}
	d.Restart(nil)
	lost(t, r, api.ErrDown)
}

// P12.5, P12.6: Node and Drop of what is none, Take of a full disk, lose the
// tree.
func TestLost(t *testing.T) {
	one := func() *tree.Tree {
		r, p, _ := planted(t, 4, 2)
		put(t, r, "a", "1")
		flush(t, p)
		return r
	}
	for _, page := range []int{math.MinInt, -1, 4, 1 << 31, 1 << 32, math.MaxInt} {
		r := one()
		if n, e := r.Node(page); !sameNode(n, api.Node{}) || e != api.ErrDisk {
			t.Errorf("Node(%d): %v, %d", page, n, e)
		}
		lost(t, r, api.ErrDisk)
	}
	for _, page := range []int{0, 1, 3} {
		r := one()
		if n, e := r.Node(page); !sameNode(n, api.Node{}) || e != api.ErrPage {
			t.Errorf("Node(%d): %v, %d", page, n, e)
		}
		lost(t, r, api.ErrPage)
	}
	for _, page := range []int{math.MinInt, -1, 0, 1, 3, 4, 1<<32 + 2, math.MaxInt} {
		r := one()
		if e := r.Drop(page); e != api.ErrArg {
			t.Errorf("Drop(%d): %d", page, e)
		}
		lost(t, r, api.ErrArg)
	}
	r := one()
	take(t, r)
	if page, e := r.Take(); page != 0 || e != api.ErrFull {
		t.Errorf("Take: %d, %d", page, e)
	}
	lost(t, r, api.ErrFull)
}

// P12.6
func TestNode(t *testing.T) {
	d := sectors(t, 16)
	s, l, model := twoLeaves(t, d)
	r := open(t, pooled(t, d, 2), s, l, 2)
	wants := map[int]api.Node{2: inner([]string{key(20)}, 3, 4), 3: leafOf(10, 5, 80), 4: leafOf(20, 5, 80)}
	for range 2 {
		for page, want := range wants {
			if n := nodeOf(t, r, page); !sameNode(n, want) {
				t.Errorf("Node(%d): %v, not %v", page, n, want)
			}
		}
	}
	// Also of a page that the tree has not, and beyond its lists.
	pack(t, d, 9, leafOf(70, 2, 40))
	if n := nodeOf(t, r, 9); !sameNode(n, leafOf(70, 2, 40)) {
		t.Errorf("Node(9): %v", n)
	}
	// What is answered is memory of its own.
	n := nodeOf(t, r, 2)
	n.Keys[0], n.Kids[0] = "z", 9
	m := nodeOf(t, r, 3)
	m.Keys[0], m.Vals[0] = "z", "z"
	stands(t, r, model)
	// A new one is told as soon as it is laid.
	put(t, r, "a", "1")
	root := nodeOf(t, r, r.At().Root)
	if n := nodeOf(t, r, root.Kids[1]); n.Keys[len(n.Keys)-1] != "a" {
		t.Errorf("Node(%d): %v", root.Kids[1], n)
	}
	spaces(t, r, api.Space{High: 7, Pending: freed(2, pendingPages(r.Space())...)})
}

// P12.6
func TestTakeAndDrop(t *testing.T) {
	p := pooled(t, sectors(t, 12), 2)
	lists := api.Space{High: 9, Free: []int{5}, Pending: freed(3, 4)}
	r := open(t, p, api.Super{}, lists, 6)
	put(t, r, "a", "1")
	at(t, r, 6, 5, 1, 1)
	page := take(t, r)
	if page != 9 {
		t.Errorf("Take: %d", page)
	}
	spaces(t, r, api.Space{High: 10, Pending: freed(3, 4)})
	// A fresh one goes back, and is taken again.
	drop(t, r, 9)
	spaces(t, r, api.Space{High: 10, Free: []int{9}, Pending: freed(3, 4)})
	if page := take(t, r); page != 9 {
		t.Errorf("Take: %d", page)
	}
	// One that is not fresh is given, of the tree's epoch.
	drop(t, r, 7)
	drop(t, r, 2)
	want := append(freed(3, 4), freed(6, 7, 2)...)
	spaces(t, r, api.Space{High: 10, Pending: want})
	drop(t, r, 9)
	spaces(t, r, api.Space{High: 10, Free: []int{9}, Pending: want})
	// The tree stands as it did.
	gets(t, r, "a", "1")
	at(t, r, 6, 5, 1, 1)
	// A node's page that is fresh goes back too.
	drop(t, r, 5)
	spaces(t, r, api.Space{High: 10, Free: []int{5, 9}, Pending: want})
	gets(t, r, "a", "1")
	// It is not fresh any more, so it can't be written; nor can it be given.
	if e := r.Put("a", "2"); e != api.ErrArg {
		t.Errorf("Put: %d", e)
	}
	lost(t, r, api.ErrArg)
}

// P12.6: of a page that is known to the lists, or is none of theirs.
func TestDropOfWhatMayNotBe(t *testing.T) {
	lists := api.Space{High: 9, Free: []int{5}, Pending: freed(3, 4)}
	for _, page := range []int{5, 4, 1, 0, -1, 9, 10, 12, 1 << 32} {
		r := open(t, pooled(t, sectors(t, 12), 2), api.Super{}, lists, 6)
		if e := r.Drop(page); e != api.ErrArg {
			t.Errorf("Drop(%d): %d", page, e)
		}
		lost(t, r, api.ErrArg)
	}
	// What went back, or was given, is known; so it can't go again.
	for _, page := range []int{9, 8} {
		r := open(t, pooled(t, sectors(t, 12), 2), api.Super{}, api.Space{High: 9}, 6)
		if got := take(t, r); got != 9 {
			t.Errorf("Take: %d", got)
		}
		drop(t, r, page)
		if e := r.Drop(page); e != api.ErrArg {
			t.Errorf("Drop(%d) again: %d", page, e)
		}
		lost(t, r, api.ErrArg)
	}
}

// P12.3, P12.6: a page that was fresh for one tree is not for the next one; what
// went back is not fresh till it is taken again.
func TestFreshForOneEpoch(t *testing.T) {
	p := pooled(t, sectors(t, 12), 2)
	r := open(t, p, api.Super{}, api.Space{High: 2}, 1)
	page := take(t, r)
	r = again(t, r, p)
	drop(t, r, page)
	spaces(t, r, api.Space{High: 3, Pending: freed(2, page)})
	put(t, r, "a", "1")
	r = again(t, r, p)
	remove(t, r, "a", true)
	spaces(t, r, api.Space{High: 4, Pending: append(freed(2, 2), freed(3, 3)...)})
}

// P12.6, P12.3: what is taken for other use is not touched by the tree.
func TestWhatIsTakenIsNotWritten(t *testing.T) {
	r, p, _ := planted(t, 100, 2)
	model := map[string]string{}
	var others []int
	for i := range 150 {
		if i%10 == 0 {
			page := take(t, r)
			others = append(others, page)
			if e := p.Put(page, []byte{byte(page)}); e != api.OK {
				t.Fatalf("Put: %d", e)
			}
		}
		k, v := shapes()["mixed"](i * 31 % 150)
		put(t, r, k, v)
		model[k] = v
		if i%3 == 0 {
			k, _ := shapes()["mixed"](i / 2 * 31 % 150)
			_, is := model[k]
			remove(t, r, k, is)
			delete(model, k)
		}
		stands(t, r, model, others...)
	}
	for _, page := range others {
		if b, e := p.Get(page); len(b) != 1 || b[0] != byte(page) || e != api.OK {
			t.Errorf("page %d: %v, %d", page, b, e)
		}
	}
}

// P12.7: two trees of one superblock; one goes on in new pages, the other one
// stays as it was, in one pool, and in pools of their own.
func TestOpenedAgain(t *testing.T) {
	for _, shared := range []bool{true, false} {
		d := sectors(t, 400)
		p := pooled(t, d, 2)
		r := open(t, p, api.Super{}, api.Space{High: 2}, 1)
		model := map[string]string{}
		for i := range 120 {
			k, v := shapes()["mixed"](i)
			put(t, r, k, v)
			model[k] = v
		}
		flush(t, p)
		q := p
		if !shared {
			q = pooled(t, d, 5)
		}
		other := again(t, r, q)
		now := maps.Clone(model)
		for i := range 240 {
			k, v := shapes()["mixed"](i * 7 % 240)
			if _, is := now[k]; is && i%2 == 0 {
				remove(t, other, k, true)
				delete(now, k)
			} else {
				put(t, other, k, v+"x"[len(v)/100:])
				now[k] = v + "x"[len(v)/100:]
			}
			if i%20 == 0 {
				stands(t, r, model)
				stands(t, other, now)
			}
		}
		flush(t, q)
		holds(t, r, model)
		stands(t, r, model)
		stands(t, again(t, r, pooled(t, d, 1)), model)
		stands(t, open(t, pooled(t, d, 1), other.At(), other.Space(), 2), now)
	}
}

// P12.7, P12.3: a crash ahead of a flush of the next epoch takes nothing of what
// was flushed, whatever of what waits lasts.
func TestCrash(t *testing.T) {
	d := sectors(t, 400)
	p := pooled(t, d, 2)
	r := open(t, p, api.Super{}, api.Space{High: 2}, 1)
	model := map[string]string{}
	for i := range 100 {
		k, v := shapes()["mixed"](i)
		put(t, r, k, v)
		model[k] = v
	}
	flush(t, p)
	for round := range 8 {
		next := again(t, r, pooled(t, d, 2))
		for i := range 60 {
			k, _ := shapes()["mixed"](i * 3 % 100)
			if _, e := next.Delete(k); e != api.OK {
				t.Fatalf("Delete: %d", e)
			}
			put(t, next, sized(50, i), "new")
		}
		var keep []int
		for _, h := range d.Waits() {
			if h.Sector%8 >= round {
				keep = append(keep, h.Sector)
			}
		}
		d.Restart(keep)
		stands(t, again(t, r, pooled(t, d, 3)), model)
	}
}

// R4: what is handed in is neither changed nor kept, its spare room included.
func TestWhatIsHandedInIsNotKept(t *testing.T) {
	free := append(make([]int, 0, 9), 2, 3, 4)
	pending := append(make([]api.Freed, 0, 9), freed(0, 5, 6)...)
	used := append(make([]int, 0, 9), 7)
	spareFree, sparePending := slices.Clone(free[:9]), slices.Clone(pending[:9])
	d := sectors(t, 20)
	pack(t, d, 9, leafOf(10, 2, 80))
	r := open(t, pooled(t, d, 2), api.Super{Root: 9, Height: 1, Count: 2, Space: used}, api.Space{High: 10, Free: free, Pending: pending}, 3)
	put(t, r, "a", "1")
	put(t, r, "b", "1")
	drop(t, r, 8)
	if !slices.Equal(free[:9], spareFree) || !slices.Equal(pending[:9], sparePending) || !slices.Equal(used, []int{7}) {
		t.Errorf("%v, %v, %v", free[:9], pending[:9], used)
	}
	was := r.Space()
	for i := range free[:9] {
		free[:9][i] = 99
		pending[:9][i] = api.Freed{Epoch: 99, Page: 99}
	}
	spaces(t, r, was)
	take(t, r)
	if s := r.Space(); !slices.Equal(s.Pending, append(freed(0, 5, 6), freed(3, 9, 8)...)) || s.High != 10 {
		t.Errorf("Space: %v", s)
	}
}

// R4: nor are lists that change as soon as Open is done.
func TestListsThatChangeBehindOpen(t *testing.T) {
	free, pending := []int{2, 3, 4}, freed(0, 5, 6)
	r := open(t, pooled(t, sectors(t, 20), 2), api.Super{}, api.Space{High: 10, Free: free, Pending: pending}, 3)
	free[0], free[2], pending[0].Page = 8, 9, 7
	spaces(t, r, api.Space{High: 10, Free: []int{2, 3, 4}, Pending: freed(0, 5, 6)})
	put(t, r, "a", "1")
	at(t, r, 3, 2, 1, 1)
}

// R4: what is answered is new memory, spare room too.
func TestWhatIsToldIsNew(t *testing.T) {
	r := open(t, pooled(t, sectors(t, 20), 2), api.Super{}, api.Space{High: 10, Free: []int{2, 3, 4}, Pending: freed(0, 5, 6)}, 3)
	for range 3 {
		was, a := r.Space(), r.Space()
		for i := range a.Free[:cap(a.Free)] {
			a.Free[:cap(a.Free)][i] = 99
		}
		for i := range a.Pending[:cap(a.Pending)] {
			a.Pending[:cap(a.Pending)][i] = api.Freed{Epoch: 99, Page: 99}
		}
		spaces(t, r, was)
		put(t, r, "a", "1")
		drop(t, r, take(t, r))
		b := r.Space()
		drop(t, r, b.High-1)
		if s := r.Space(); len(s.Pending) != len(b.Pending)+1 || slices.Equal(s.Pending, b.Pending) {
			t.Errorf("Space: %v, %v", b, s)
		}
		remove(t, r, "a", true)
		r = open(t, pooled(t, sectors(t, 20), 2), api.Super{}, api.Space{High: 10, Free: []int{2, 3, 4}, Pending: freed(0, 5, 6)}, 3)
	}
}

// R1: a nil tree, and one that Open did not make.
func TestNoTree(t *testing.T) {
	var none *tree.Tree
	for _, r := range []*tree.Tree{none, {}} {
		lost(t, r, api.ErrArg)
		if a := r.At(); !sameSuper(a, api.Super{}) {
			t.Errorf("At: %v", a)
		}
		if s := r.Space(); !sameSpace(s, api.Space{}) {
			t.Errorf("Space: %v", s)
		}
	}
}

// script are calls from a seed, on a tree that is opened anew now and then: what
// they answered.
func script(t *testing.T, seed, sectors, frames int) string {
	t.Helper()
	d, _ := disk.New(sectors)
	p, _ := pool.New(d, frames)
	r := open(t, p, api.Super{}, api.Space{High: 2}, 1)
	var told strings.Builder
	at := uint32(seed)
	for i := range 400 {
		at = at*1664525 + 1013904223
		k, v := shapes()["mixed"](int(at>>8) % 120)
		switch at >> 28 {
		case 0, 1, 2, 3, 4, 5, 6:
			fmt.Fprintln(&told, "put", r.Put(k, v))
		case 7, 8, 9, 10:
			is, e := r.Delete(k)
			fmt.Fprintln(&told, "delete", is, e)
		case 11:
			n, e := r.Take()
			fmt.Fprintln(&told, "take", n, e)
		case 12:
			fmt.Fprintln(&told, "put", r.Put(k+strings.Repeat("k", 120), v))
		default:
			v, is, e := r.Get(k)
			fmt.Fprintln(&told, v, is, e)
		}
		fmt.Fprintln(&told, r.At(), r.Space())
		if i%60 == 59 {
			r = again(t, r, p)
		}
	}
	return told.String()
}

// R5, W3: what is told hangs on what was asked alone, not on how many frames
// there are.
func TestFramesAreNotSeen(t *testing.T) {
	for seed := range 12 {
		for _, sectors := range []int{30, 400} {
			want := script(t, seed, sectors, 1)
			for _, frames := range []int{1, 2, 3, 300} {
				if got := script(t, seed, sectors, frames); got != want {
					t.Errorf("seed %d, %d sectors, %d frames: other answers", seed, sectors, frames)
				}
			}
		}
	}
}

// ends runs calls on a tree that may be none: each has to end, and once an
// error is told it has to stay.
func ends(t *testing.T, what string, r *tree.Tree) {
	t.Helper()
	defer func() {
		if x := recover(); x != nil {
			t.Errorf("%s: panic: %v", what, x)
		}
	}()
	var first api.Errno
	asked := func(e api.Errno) {
		t.Helper()
		if first != api.OK && e != first {
			t.Errorf("%s: %d behind %d", what, e, first)
		}
		first = e
	}
	for i := range 60 {
		k := string(rune('a' + i*7%26))
		asked(r.Put(k+strings.Repeat("k", i*11%100), strings.Repeat("v", i*17%100)))
		_, _, e := r.Get(k)
		asked(e)
		_, e = r.Delete(string(rune('a' + i*11%26)))
		asked(e)
		n := r.At()
		_, e = r.Node(n.Root)
		if n.Height > 0 {
			asked(e)
		} else if first == api.OK {
			return
		}
	}
}

// R1, W6: trees that are none: a page that leads to itself, kids twice, keys
// that do not lead, small nodes, inner nodes above an end that is none.
func TestTreesThatAreNone(t *testing.T) {
	small := func(s ...string) api.Node { return api.Node{Leaf: true, Keys: s, Vals: make([]string, len(s))} }
	full := leafOf(10, 12, 80)
	trees := map[string][]api.Node{
		"itself":     {inner([]string{"m"}, 2, 2)},
		"ring":       {inner([]string{"m"}, 3, 3), inner([]string{"g"}, 2, 2)},
		"twice":      {inner([]string{"m"}, 3, 3), small("a", "z")},
		"wrong way":  {inner([]string{"m"}, 3, 4), small("x", "z"), small("a", "c")},
		"small":      {inner([]string{"m"}, 3, 4), small("a"), small("z")},
		"no entries": {inner([]string{"m"}, 3, 4), small(), small()},
		"full twice": {inner([]string{"m"}, 3, 3), full},
		"three":      {inner([]string{"m"}, 3, 4), inner([]string{"d"}, 5, 6), inner([]string{"t"}, 7, 8), small("a"), small("f"), small("o"), small("x")},
		"three, odd": {inner([]string{"d"}, 3, 4), inner([]string{"m"}, 5, 5), inner([]string{"c"}, 5, 6), small("z"), small("b")},
		"empty":      {small()},
	}
	lists := []api.Space{
		{High: 12},
		{High: 2},
		{High: 12, Free: []int{2, 3, 4, 5, 6}},
		{High: 12, Pending: freed(0, 2, 3, 4)},
		{High: 12, Pending: freed(9, 10)},
	}
	for name, l := range trees {
		for height := 1; height <= 20; height++ {
			for i, s := range lists {
				d := sectors(t, 40)
				for j, n := range l {
					pack(t, d, 2+j, n)
				}
				r := open(t, pooled(t, d, 2), api.Super{Root: 2, Height: height}, s, 5)
				ends(t, fmt.Sprintf("%s, height %d, lists %d", name, height, i), r)
			}
		}
	}
}

// R1: nodes that come together but may not be one tell ErrPage.
func TestNodesThatDoNotRise(t *testing.T) {
	d := sectors(t, 16)
	pack(t, d, 2, inner([]string{"m"}, 3, 4))
	pack(t, d, 3, api.Node{Leaf: true, Keys: []string{"x", "z"}, Vals: []string{"", ""}})
	pack(t, d, 4, api.Node{Leaf: true, Keys: []string{"n"}, Vals: []string{""}})
	r := open(t, pooled(t, d, 2), api.Super{Root: 2, Height: 2}, api.Space{High: 5}, 2)
	if e := r.Put("a", ""); e != api.ErrPage {
		t.Errorf("Put: %d", e)
	}
	lost(t, r, api.ErrPage)
}

// P12.3: what can't be given, as the lists do not let it, is told as they do.
func TestPagesThatCantBeGiven(t *testing.T) {
	for _, s := range []api.Space{
		{High: 9},
		{High: 12, Free: []int{3, 9}},
		{High: 12, Pending: freed(1, 9)},
		{High: 12, Pending: freed(4, 11)},
	} {
		d := sectors(t, 16)
		pack(t, d, 9, leafOf(10, 2, 80))
		r := open(t, pooled(t, d, 2), api.Super{Root: 9, Height: 1, Count: 2}, s, 3)
		if e := r.Put("a", ""); e != api.ErrArg {
			t.Errorf("Put of %v: %d", s, e)
		}
		lost(t, r, api.ErrArg)
	}
}
