package scan_test

import (
	"cmp"
	"fmt"
	"maps"
	"math"
	"math/rand"
	"slices"
	"strings"
	"testing"

	"tailrace/api"
	"tailrace/crc"
	"tailrace/disk"
	"tailrace/frame"
	"tailrace/node"
	"tailrace/pool"
	"tailrace/scan"
	"tailrace/tree"
)

// sectors makes a disk of n.
func sectors(t *testing.T, n int) *disk.Disk {
	t.Helper()
	d, e := disk.New(n)
	if e != api.OK {
		t.Fatalf("disk.New(%d): %d", n, e)
	}
	return d
}

// pooled makes a pool of a disk.
func pooled(t *testing.T, d *disk.Disk, frames int) *pool.Pool {
	t.Helper()
	p, e := pool.New(d, frames)
	if e != api.OK {
		t.Fatalf("pool.New(%d): %d", frames, e)
	}
	return p
}

// open must be done.
func open(t *testing.T, p *pool.Pool, at api.Super, s api.Space, epoch int) *tree.Tree {
	t.Helper()
	r, e := tree.Open(p, at, s, epoch)
	if e != api.OK || r == nil {
		t.Fatalf("tree.Open(%v, %v, %d): %v, %d", at, s, epoch, r, e)
	}
	return r
}

// planted is a tree without entries, on a disk of n sectors.
func planted(t *testing.T, n, frames int) (*tree.Tree, *pool.Pool) {
	t.Helper()
	p := pooled(t, sectors(t, n), frames)
	return open(t, p, api.Super{}, api.Space{High: api.First}, 1), p
}

// again is the tree that r is, opened for the epoch behind r's.
func again(t *testing.T, r *tree.Tree, p *pool.Pool) *tree.Tree {
	t.Helper()
	return open(t, p, r.At(), r.Space(), r.At().Epoch+1)
}

func put(t *testing.T, r *tree.Tree, key, val string) {
	t.Helper()
	if e := r.Put(key, val); e != api.OK {
		t.Fatalf("Put(%.20q, %.20q): %d", key, val, e)
	}
}

func remove(t *testing.T, r *tree.Tree, key string) {
	t.Helper()
	if is, e := r.Delete(key); !is || e != api.OK {
		t.Fatalf("Delete(%.20q): %v, %d", key, is, e)
	}
}

func take(t *testing.T, r *tree.Tree) int {
	t.Helper()
	page, e := r.Take()
	if e != api.OK {
		t.Fatalf("Take: %d", e)
	}
	return page
}

// key is one of many, in their order.
func key(i int) string { return fmt.Sprintf("%06d", i) }

func val(i int) string { return strings.Repeat("v", i%70) + fmt.Sprint(i) }

// grown is a tree of count keys: 10, 20, ...
func grown(t *testing.T, count int) (*tree.Tree, []api.Entry, *pool.Pool) {
	t.Helper()
	r, p := planted(t, 600, 3)
	var model []api.Entry
	for i := range count {
		model = append(model, api.Entry{Key: key(10 * (i + 1)), Val: val(i)})
	}
	for _, i := range rand.New(rand.NewSource(int64(count))).Perm(count) {
		put(t, r, model[i].Key, model[i].Val)
	}
	return r, model, p
}

// counts are how many entries trees of some heights have (grown's).
func counts() map[int][]int {
	return map[int][]int{0: {0}, 1: {1, 2, 10}, 2: {40, 300}, 3: {2700}}
}

// eachTree does something with a tree of each height.
func eachTree(t *testing.T, do func(t *testing.T, r *tree.Tree, model []api.Entry, p *pool.Pool)) {
	for height, l := range counts() {
		for _, count := range l {
			t.Run(fmt.Sprint(height, " ", count), func(t *testing.T) {
				r, model, p := grown(t, count)
				if h := r.At().Height; h != height {
					t.Fatalf("%d entries have the height %d", count, h)
				}
				do(t, r, model, p)
			})
		}
	}
}

// wanted are the entries of a model that a range should tell.
func wanted(model []api.Entry, from, to string, most int) []api.Entry {
	var l []api.Entry
	for _, x := range model {
		if len(l) < most && x.Key >= from && (to == "" || x.Key < to) {
			l = append(l, x)
		}
	}
	return l
}

// ranges asks for the entries of a range.
func ranges(t *testing.T, r *tree.Tree, from, to string, most int, want []api.Entry) {
	t.Helper()
	if l, e := scan.Range(r, from, to, most); !slices.Equal(l, want) || e != api.OK {
		t.Errorf("Range(%.20q, %.20q, %d): %d entries, %d, not those %d", from, to, most, len(l), e, len(want))
	}
}

// fails asks for an error, and nothing else, of a range.
func fails(t *testing.T, r *tree.Tree, from, to string, most int, want api.Errno) {
	t.Helper()
	if l, e := scan.Range(r, from, to, most); len(l) != 0 || e != want {
		t.Errorf("Range(%.20q, %.20q, %d): %d entries, %d, not %d", from, to, most, len(l), e, want)
	}
}

func pages(t *testing.T, r *tree.Tree, want []int) {
	t.Helper()
	if l, e := scan.Pages(r); !slices.Equal(l, want) || e != api.OK {
		t.Errorf("Pages: %v, %d, not %v", l, e, want)
	}
}

func checks(t *testing.T, r *tree.Tree, want int) {
	t.Helper()
	if n, e := scan.Check(r); n != want || e != api.OK {
		t.Errorf("Check: %d, %d, not %d", n, e, want)
	}
}

// allFail asks for an error of all three.
func allFail(t *testing.T, r *tree.Tree, want api.Errno) {
	t.Helper()
	fails(t, r, "", "", math.MaxInt, want)
	if l, e := scan.Pages(r); len(l) != 0 || e != want {
		t.Errorf("Pages: %v, %d, not %d", l, e, want)
	}
	if n, e := scan.Check(r); n != 0 || e != want {
		t.Errorf("Check: %d, %d, not %d", n, e, want)
	}
}

// known are the pages of lists.
func known(s api.Space) []int {
	l := slices.Clone(s.Free)
	for _, f := range s.Pending {
		l = append(l, f.Page)
	}
	return l
}

// nodePages are the pages of a tree's nodes, rising: level by level.
func nodePages(t *testing.T, r *tree.Tree) []int {
	t.Helper()
	var l []int
	at := r.At()
	next := []int{at.Root}
	for h := at.Height; h > 0; h-- {
		var kids []int
		for _, page := range next {
			n, e := r.Node(page)
			if e != api.OK {
				t.Fatalf("Node(%d): %d", page, e)
			}
			kids = append(kids, n.Kids...)
		}
		l = append(l, next...)
		next = kids
	}
	slices.Sort(l)
	return l
}

// lostPages are how many pages are no node's, and not known.
func lostPages(t *testing.T, r *tree.Tree) int {
	t.Helper()
	s := r.Space()
	used := map[int]int{}
	for _, page := range append(nodePages(t, r), known(s)...) {
		used[page]++
	}
	lost := 0
	for page := api.First; page < s.High; page++ {
		if used[page] == 0 {
			lost++
		}
	}
	return lost
}

// The chapter's examples.
func TestExamples(t *testing.T) {
	r, _ := planted(t, 16, 3)
	for i, k := range []string{"a", "b", "c"} {
		put(t, r, k, fmt.Sprint(i+1))
	}
	a, b, c := api.Entry{Key: "a", Val: "1"}, api.Entry{Key: "b", Val: "2"}, api.Entry{Key: "c", Val: "3"}
	ranges(t, r, "b", "", 9, []api.Entry{b, c})
	ranges(t, r, "", "c", 9, []api.Entry{a, b})
	ranges(t, r, "", "", 1, []api.Entry{a})
	pages(t, r, []int{r.At().Root})
	checks(t, r, 0)
}

// ends are keys where ranges may begin, or end, of a tree of grown: before all
// keys, at some, between some, at the last one, and behind all.
func ends(count int) []string {
	l := []string{"", "\x00", "0", key(0), key(10*count + 5), "1", "\xff\xff"}
	for _, i := range []int{1, 2, 3, count / 2, count/2 + 1, count - 1, count} {
		l = append(l, key(10*i-1), key(10*i), key(10*i)+"\x00", key(10*i+1))
	}
	return l
}

// P13.1
func TestRange(t *testing.T) {
	eachTree(t, func(t *testing.T, r *tree.Tree, model []api.Entry, _ *pool.Pool) {
		for _, from := range ends(len(model)) {
			for _, to := range ends(len(model)) {
				all := wanted(model, from, to, math.MaxInt)
				for _, most := range []int{math.MaxInt, len(all) - 1, len(all), len(all) + 1, 1} {
					ranges(t, r, from, to, most, all[:max(0, min(most, len(all)))])
				}
			}
		}
	})
}

// P13.1: at most so many, none of fewer than one.
func TestRangeOfSoMany(t *testing.T) {
	eachTree(t, func(t *testing.T, r *tree.Tree, model []api.Entry, _ *pool.Pool) {
		for _, most := range []int{math.MinInt, -1 << 32, -1, 0} {
			ranges(t, r, "", "", most, nil)
			ranges(t, r, key(10), key(20), most, nil)
		}
		for most := range len(model) + 2 {
			if most < 40 || most > len(model)-40 || most%50 == 0 {
				ranges(t, r, "", "", most, model[:min(most, len(model))])
			}
		}
		ranges(t, r, "", "", 1<<32+1, model)
	})
}

// P13.1: to is empty, at from, or before it.
func TestRangeOfNoKeys(t *testing.T) {
	eachTree(t, func(t *testing.T, r *tree.Tree, model []api.Entry, _ *pool.Pool) {
		for _, k := range ends(len(model)) {
			if k != "" {
				ranges(t, r, k, k, 9, nil)
				ranges(t, r, k+"\x00", k, 9, nil)
			}
		}
		ranges(t, r, key(20), key(10), 9, nil)
		ranges(t, r, "\xff", "\x00", 9, nil)
		ranges(t, r, key(10), "", math.MaxInt, model)
		ranges(t, r, "", "\x00", 9, nil)
	})
}

// P13.1: keys are compared as Go's texts are, of any bytes, and of any length.
func TestRangeOfAnyBytes(t *testing.T) {
	r, _ := planted(t, 64, 3)
	long := strings.Repeat("\xff", api.MaxKey)
	model := []api.Entry{{Key: "\x00", Val: "1"}, {Key: "\x00\x00"}, {Key: "a"}, {Key: "a\x00"}, {Key: "b"}, {Key: "\x80", Val: "2"}, {Key: "\xff"}, {Key: long}}
	for _, x := range model {
		put(t, r, x.Key, x.Val)
	}
	keys := []string{"", "\x00", "\x00\x00", "\x00\x00\x00", "\x01", "a", "a\x00", "a\x00\x00", "a\x01", "\u20ac", "\x80", "\xff", long, long + "\x00", strings.Repeat("\xff", 1000)}
	for _, from := range keys {
		for _, to := range keys {
			ranges(t, r, from, to, 99, wanted(model, from, to, 99))
		}
	}
}

// P13.4: ranges that follow one another are all entries.
func TestRangesThatFollow(t *testing.T) {
	eachTree(t, func(t *testing.T, r *tree.Tree, model []api.Entry, _ *pool.Pool) {
		for _, step := range []int{1, 2, 3, 7, 50, 1000} {
			if step == 1 && len(model) > 300 {
				continue
			}
			var all []api.Entry
			for from := ""; ; {
				l, e := scan.Range(r, from, "", step)
				if e != api.OK {
					t.Fatalf("Range(%q, %d): %d", from, step, e)
				}
				if len(l) == 0 {
					break
				}
				all = append(all, l...)
				from = l[len(l)-1].Key + "\x00"
			}
			if !slices.Equal(all, model) {
				t.Errorf("%d entries by %d, not %d", len(all), step, len(model))
			}
		}
		for _, part := range []int{1, 3, 20, 1000} {
			var all []api.Entry
			for i := 0; i <= 10*len(model); i += 10 * part {
				l, e := scan.Range(r, key(i), key(i+10*part), math.MaxInt)
				if e != api.OK {
					t.Fatalf("Range from %d on: %d", i, e)
				}
				all = append(all, l...)
			}
			if !slices.Equal(all, model) {
				t.Errorf("%d entries of parts of %d, not %d", len(all), part, len(model))
			}
		}
	})
}

// pack lays a node into a disk's sector.
func pack(t *testing.T, d *disk.Disk, page int, n api.Node) {
	t.Helper()
	kind, data, e := node.Encode(n)
	if e != api.OK {
		t.Fatalf("Encode of page %d: %d", page, e)
	}
	b, e := frame.Pack(kind, page, data)
	if e != api.OK {
		t.Fatalf("Pack of page %d: %d", page, e)
	}
	if e := d.Write(page, b); e != api.OK {
		t.Fatalf("Write(%d): %d", page, e)
	}
}

// leafOf is a leaf of five entries of 80 bytes each, whose first key is a number.
func leafOf(first int) api.Node {
	n := api.Node{Leaf: true}
	for i := range 5 {
		n.Keys = append(n.Keys, key(first+i))
		n.Vals = append(n.Vals, strings.Repeat("v", 80-2-len(key(first))))
	}
	return n
}

// between is a key ahead of a number's and all greater ones, of n bytes.
func between(first, n int) string {
	return key(first-1) + strings.Repeat("x", n-len(key(first)))
}

func inner(keys []string, kids ...int) api.Node { return api.Node{Keys: keys, Kids: kids} }

// made is a tree laid by hand: nodes by their pages, and what Open is told.
type made struct {
	nodes map[int]api.Node
	at    api.Super
	lists api.Space
}

// threeLevels is a tree of the height 3 that is as it should be: the root 2, the
// inner nodes 3 and 4, and the leaves 5, 7, 9 and 6, 8, 10, of the keys 100 to
// 104, 200 to 204, and so on up to 604.
func threeLevels() *made {
	m := &made{
		nodes: map[int]api.Node{
			2: inner([]string{between(400, 10)}, 3, 4),
			3: inner([]string{between(200, 120), between(300, 120)}, 5, 7, 9),
			4: inner([]string{between(500, 120), between(600, 120)}, 6, 8, 10),
		},
		at:    api.Super{Epoch: 1, Root: 2, Height: 3, Count: 30},
		lists: api.Space{High: 11},
	}
	for i, page := range []int{5, 7, 9, 6, 8, 10} {
		m.nodes[page] = leafOf(100 * (i + 1))
	}
	return m
}

// entries are a hand-made tree's.
func (m *made) entries() []api.Entry {
	var l []api.Entry
	for _, n := range m.nodes {
		for i, v := range n.Vals {
			l = append(l, api.Entry{Key: n.Keys[i], Val: v})
		}
	}
	slices.SortFunc(l, func(a, b api.Entry) int { return strings.Compare(a.Key, b.Key) })
	return l
}

// laid is a hand-made tree on a disk of 40 sectors.
func (m *made) laid(t *testing.T) (*tree.Tree, *disk.Disk) {
	t.Helper()
	d := sectors(t, 40)
	for page, n := range m.nodes {
		pack(t, d, page, n)
	}
	return open(t, pooled(t, d, 3), m.at, m.lists, 5), d
}

// P13.1 to P13.3: a tree laid by hand, as it should be.
func TestThreeLevels(t *testing.T) {
	m := threeLevels()
	r, _ := m.laid(t)
	ranges(t, r, "", "", 99, m.entries())
	ranges(t, r, key(104), key(301), 99, m.entries()[4:11])
	pages(t, r, []int{2, 3, 4, 5, 6, 7, 8, 9, 10})
	checks(t, r, 0)
}

// bounds are, for a page of threeLevels, the keys between which its own lie, in
// the order in which pages are asked.
func bounds() []struct {
	page     int
	from, to string
} {
	l := func(i int) string { return threeLevels().leads(i) }
	return []struct {
		page     int
		from, to string
	}{
		{2, "", "\xff"}, {3, "", l(400)}, {5, "", l(200)}, {7, l(200), l(300)}, {9, l(300), l(400)},
		{4, l(400), "\xff"}, {6, l(400), l(500)}, {8, l(500), l(600)}, {10, l(600), "\xff"},
	}
}

// leads is the key ahead of the leaf whose first key is a number.
func (m *made) leads(first int) string {
	for _, n := range m.nodes {
		for _, k := range n.Keys {
			if !n.Leaf && k > key(first-1) && k < key(first) {
				return k
			}
		}
	}
	return ""
}

// P13.1: pages beneath which no such key may be are not asked, nor are those
// behind as many entries as were asked for; an error of one that is asked is
// told alone.
func TestRangeOfBrokenPages(t *testing.T) {
	m := threeLevels()
	all := m.entries()
	keys := []string{"", key(100), key(104), key(105), key(199), m.leads(200), key(200), key(250), m.leads(300), key(300), key(304), m.leads(400), key(400), m.leads(500), key(500), m.leads(600), key(600), key(604), key(605)}
	for _, broken := range bounds() {
		r, d := m.laid(t)
		if e := d.Turn(broken.page, 30, 1); e != api.OK {
			t.Fatal(e)
		}
		p := pooled(t, d, 2)
		for _, from := range keys {
			for _, to := range keys[1:] {
				ahead := wanted(all, from, min(to, broken.from), 99)
				if broken.from == "" {
					ahead = nil
				}
				isIn := from < to && from < broken.to && broken.from < to
				for _, most := range []int{-1, 0, 1, 3, 5, 6, 10, 15, 16, 99} {
					r = open(t, p, m.at, m.lists, 5)
					if isIn && len(ahead) < most {
						fails(t, r, from, to, most, api.ErrPage)
					} else {
						ranges(t, r, from, to, most, wanted(all, from, to, most))
					}
				}
			}
		}
	}
}

// P13.1: where a node's key is, the kid ahead of it is not asked; nor is the kid
// behind it, if it is where the range ends.
func TestRangeAtTheKeysOfNodes(t *testing.T) {
	for _, c := range []struct {
		separator    string
		ahead, other int
	}{{between(200, 120), 5, 7}, {between(300, 120), 7, 9}, {between(400, 10), 3, 4}, {between(500, 120), 6, 8}} {
		m := threeLevels()
		r, d := m.laid(t)
		d.Turn(c.ahead, 30, 1)
		ranges(t, r, c.separator, "", 99, wanted(m.entries(), c.separator, "", 99))
		fails(t, r, key(1), c.separator, 99, api.ErrPage)
		r, d = m.laid(t)
		d.Turn(c.other, 30, 1)
		ranges(t, r, "", c.separator, 99, wanted(m.entries(), "", c.separator, 99))
		fails(t, r, "", c.separator+"\x00", 99, api.ErrPage)
		r, d = m.laid(t)
		d.Turn(c.ahead, 30, 1)
		fails(t, r, c.separator[:len(c.separator)-1], "", 99, api.ErrPage)
	}
}

// P13.1: no page may have a key of a range that ends where it begins, or ahead
// of that; not the root either.
func TestRangeOfNoKeysAsksNothing(t *testing.T) {
	for _, c := range [][2]string{{key(300), key(300)}, {key(301), key(300)}, {"a", "\x00"}} {
		r, d := threeLevels().laid(t)
		d.Turn(2, 30, 1)
		ranges(t, r, c[0], c[1], 99, nil)
		ranges(t, r, "", "", 0, nil)
		fails(t, r, c[1], c[0]+"\x00", 99, api.ErrPage)
	}
}

// P13.1: errors behind entries that were found, and behind as many as were asked
// for.
func TestErrorsBehindEntries(t *testing.T) {
	m := threeLevels()
	r, d := m.laid(t)
	d.Turn(9, 40, 255)
	for most := range 11 {
		ranges(t, r, "", "", most, m.entries()[:most])
	}
	ranges(t, r, key(203), "", 2, m.entries()[8:10])
	fails(t, r, "", "", 11, api.ErrPage)

	r, d = m.laid(t)
	d.Turn(9, 40, 255)
	fails(t, r, key(203), "", 3, api.ErrPage)
	r, d = m.laid(t)
	d.Turn(4, 8, 255)
	ranges(t, r, "", "", 15, m.entries()[:15])
	fails(t, r, "", "", 16, api.ErrPage)
}

// P13.2
func TestPages(t *testing.T) {
	eachTree(t, func(t *testing.T, r *tree.Tree, _ []api.Entry, p *pool.Pool) {
		pages(t, r, nodePages(t, r))
		s := again(t, r, p)
		pages(t, s, nodePages(t, r))
	})
}

// P13.2, P13.3: trees that are grown, and cut until they have no entries.
func TestGrownAndCut(t *testing.T) {
	r, model, p := grown(t, 700)
	for i, x := range model {
		remove(t, r, x.Key)
		if i%100 == 50 {
			r = again(t, r, p)
		}
		if i%7 == 0 || i > len(model)-40 {
			pages(t, r, nodePages(t, r))
			checks(t, r, 0)
			ranges(t, r, "", "", math.MaxInt, model[i+1:])
		}
	}
	if len(r.Space().Free) == 0 || r.At().Height != 0 {
		t.Errorf("%v, %v", r.Space(), r.At())
	}
	pages(t, r, nil)
}

// P13.2, P13.3, and the line ahead of P13.1: each page that is broken is told.
func TestBrokenPages(t *testing.T) {
	for page := range threeLevels().nodes {
		for _, ask := range asks() {
			r, d := threeLevels().laid(t)
			d.Turn(page, 30, 1)
			if e := ask(r); e != api.ErrPage {
				t.Errorf("page %d: %d", page, e)
			}
			allFail(t, r, api.ErrPage)
		}
	}
}

// nothing is an error beside which nothing is told; -1, if something is.
func nothing(e api.Errno, n int) api.Errno {
	if n != 0 {
		return -1
	}
	return e
}

// asks are the three, of all of a tree.
func asks() map[string]func(r *tree.Tree) api.Errno {
	return map[string]func(r *tree.Tree) api.Errno{
		"Range": func(r *tree.Tree) api.Errno { l, e := scan.Range(r, "", "", 999); return nothing(e, len(l)) },
		"Pages": func(r *tree.Tree) api.Errno { l, e := scan.Pages(r); return nothing(e, len(l)) },
		"Check": func(r *tree.Tree) api.Errno { n, e := scan.Check(r); return nothing(e, n) },
	}
}

// each asks the three, of a tree that is laid anew for each, for an error.
func each(t *testing.T, what string, m *made, want api.Errno, harm func(d *disk.Disk)) {
	t.Helper()
	for name, ask := range asks() {
		r, d := m.laid(t)
		if harm != nil {
			harm(d)
		}
		if e := ask(r); e != want {
			t.Errorf("%s, %s: %d, not %d", what, name, e, want)
		}
	}
}

// kid puts another kid in the place of one of a node's.
func (m *made) kid(page, i, kid int) {
	n := m.nodes[page]
	n.Kids = slices.Clone(n.Kids)
	n.Kids[i] = kid
	m.nodes[page] = n
}

// The line ahead of P13.1: the first error is told, page by page by their keys,
// and a node ahead of what is beneath it.
func TestTheFirstError(t *testing.T) {
	// A page beyond the disk's sectors tells ErrDisk, one that is broken ErrPage.
	order := bounds()[1:]
	place := map[int][2]int{3: {2, 0}, 4: {2, 1}, 5: {3, 0}, 7: {3, 1}, 9: {3, 2}, 6: {4, 0}, 8: {4, 1}, 10: {4, 2}}
	for i, beyond := range order {
		for j, broken := range order {
			want := api.ErrDisk
			if j < i {
				want = api.ErrPage
			}
			if i == j {
				continue
			}
			m := threeLevels()
			up := place[beyond.page]
			m.kid(up[0], up[1], 77)
			each(t, fmt.Sprint(beyond.page, " beyond, ", broken.page, " broken"), m, want, func(d *disk.Disk) { d.Turn(broken.page, 30, 1) })
		}
	}
}

// The line ahead of P13.1: the errors of tree.Node.
func TestErrorsOfNodes(t *testing.T) {
	m := threeLevels()
	m.kid(4, 2, 40)
	each(t, "a kid beyond the disk", m, api.ErrDisk, nil)
	m.kid(4, 2, math.MaxInt32)
	each(t, "a kid far beyond the disk", m, api.ErrDisk, nil)
	m.kid(4, 2, 39)
	each(t, "a kid that is not written", m, api.ErrPage, nil)
	for _, root := range []int{math.MinInt, -1, 40, 1 << 32, math.MaxInt} {
		m = threeLevels()
		m.at.Root = root
		each(t, fmt.Sprint("the root ", root), m, api.ErrDisk, nil)
	}
	m = threeLevels()
	m.at.Root = 1
	each(t, "the root 1 that is not written", m, api.ErrPage, nil)
	each(t, "a disk without power", threeLevels(), api.ErrDown, func(d *disk.Disk) {
		d.Fuse(0)
		d.Flush()
	})
}

// The line ahead of P13.1: all of the pool's frames are pinned.
func TestPinned(t *testing.T) {
	for name, ask := range asks() {
		d := sectors(t, 40)
		m := threeLevels()
		for page, n := range m.nodes {
			pack(t, d, page, n)
		}
		p := pooled(t, d, 2)
		for _, page := range []int{2, 3} {
			p.Get(page)
			p.Pin(page)
		}
		r := open(t, p, m.at, m.lists, 5)
		if e := ask(r); e != api.ErrPinned {
			t.Errorf("%s: %d", name, e)
		}
	}
}

// The line ahead of P13.1: a leaf above the height 1, and an inner node at it.
func TestNodesOfTheOtherKind(t *testing.T) {
	for _, c := range []struct {
		what            string
		height, up, kid int
		page            int
	}{
		{"a leaf in an inner node's place", 3, 2, 0, 12},
		{"a leaf in the last inner node's place", 3, 2, 1, 12},
		{"an inner node in a leaf's place", 3, 3, 0, 13},
		{"an inner node in the last leaf's place", 3, 4, 2, 13},
		{"a tree that is told to be lower", 2, 2, 0, 3},
		{"a tree that is told to be of one leaf", 1, 2, 0, 3},
		{"a tree that is told to be higher", 4, 2, 0, 3},
		{"a tree that is told to be as high as may be", 20, 2, 0, 3},
	} {
		m := threeLevels()
		m.at.Height = c.height
		m.kid(c.up, c.kid, c.page)
		m.lists.High = 14
		m.nodes[12] = leafOf(700)
		m.nodes[13] = inner([]string{"x"}, 20, 21)
		each(t, c.what, m, api.ErrPage, nil)
	}
	m := &made{nodes: map[int]api.Node{2: leafOf(1)}, at: api.Super{Root: 2, Height: 2, Count: 5}, lists: api.Space{High: 3}}
	each(t, "a leaf as the root of the height 2", m, api.ErrPage, nil)
	m = &made{nodes: map[int]api.Node{2: inner([]string{"x"}, 20, 21)}, at: api.Super{Root: 2, Height: 1, Count: 5}, lists: api.Space{High: 3}}
	each(t, "an inner node as the root of the height 1", m, api.ErrPage, nil)
}

// A range does not ask for nodes of the other kind where it asks for no node.
func TestRangeBesideNodesOfTheOtherKind(t *testing.T) {
	m := threeLevels()
	m.kid(2, 1, 12)
	m.nodes[12] = leafOf(700)
	r, _ := m.laid(t)
	ranges(t, r, "", key(399), 99, m.entries()[:15])
	ranges(t, r, "", "", 15, m.entries()[:15])
	fails(t, r, "", "", 16, api.ErrPage)
	// The tree told no error, so it is not lost.
	ranges(t, r, key(200), "", 3, m.entries()[5:8])
}

// The line ahead of P13.1: pages that are met again.
func TestPagesThatAreMetAgain(t *testing.T) {
	for _, c := range []struct {
		what         string
		up, kid, to  int
		height, root int
	}{
		{"a leaf named twice by its node", 3, 1, 5, 3, 2},
		{"a leaf named again by its node", 3, 2, 5, 3, 2},
		{"a leaf named by another node", 4, 2, 9, 3, 2},
		{"an inner node named twice", 2, 1, 3, 3, 2},
		{"the root leads to itself", 2, 0, 2, 3, 2},
		{"the root leads to itself, at last", 2, 1, 2, 3, 2},
		{"an inner node leads to itself", 3, 0, 3, 4, 2},
		{"a leaf's place leads to the root", 4, 2, 2, 3, 2},
		{"a high tree of one node", 2, 0, 2, 20, 2},
	} {
		m := threeLevels()
		m.kid(c.up, c.kid, c.to)
		m.at.Height = c.height
		each(t, c.what, m, api.ErrPage, nil)
	}
}

// A page is met again in one call only, and only where it is asked.
func TestMetInOneCall(t *testing.T) {
	m := threeLevels()
	m.kid(4, 2, 5)
	r, _ := m.laid(t)
	ranges(t, r, "", key(599), 99, m.entries()[:25])
	ranges(t, r, "", key(599), 99, m.entries()[:25])
	ranges(t, r, "", "", 25, m.entries()[:25])
	// Beneath its second place are no keys of those that lead there.
	ranges(t, r, key(600), "", 99, nil)
	fails(t, r, "", "", 26, api.ErrPage)
	ranges(t, r, "", key(599), 99, m.entries()[:25])

	m = threeLevels()
	r, _ = m.laid(t)
	for range 3 {
		pages(t, r, []int{2, 3, 4, 5, 6, 7, 8, 9, 10})
		checks(t, r, 0)
		ranges(t, r, "", "", 99, m.entries())
	}
}

// Where a page that is met again stands ahead of an error, it is told.
func TestMetAheadOfErrors(t *testing.T) {
	m := threeLevels()
	m.kid(3, 1, 5)
	m.kid(3, 2, 77)
	each(t, "met again ahead of a page beyond", m, api.ErrPage, nil)
	m = threeLevels()
	m.kid(3, 2, 5)
	m.kid(3, 1, 77)
	each(t, "met again behind a page beyond", m, api.ErrDisk, nil)
}

// P13.3, P13.4: nothing is lost of trees that are laid entry by entry.
func TestCheckOfLaidTrees(t *testing.T) {
	eachTree(t, func(t *testing.T, r *tree.Tree, _ []api.Entry, p *pool.Pool) {
		checks(t, r, 0)
		checks(t, again(t, r, p), 0)
	})
}

// P13.3: behind each kind of change.
func TestCheckBehindChanges(t *testing.T) {
	r, model, p := grown(t, 300)
	for round := range 6 {
		elder := r
		r = again(t, r, p)
		for i := range 20 {
			x := model[(37*round+11*i)%len(model)]
			put(t, r, x.Key, strings.Repeat("w", 1+round*17))
			checks(t, r, 0)
			remove(t, r, x.Key)
			checks(t, r, 0)
			put(t, r, x.Key, x.Val)
			checks(t, r, 0)
			put(t, r, x.Key, x.Val)
			checks(t, r, 0)
			if is, e := r.Delete("none"); is || e != api.OK {
				t.Fatal(is, e)
			}
			checks(t, r, 0)
		}
		// The elder one holds pages that pend now, and does not know of those that
		// were taken since then.
		checks(t, elder, 0)
		ranges(t, elder, "", "", 999, model)
		ranges(t, r, "", "", 999, model)
		if len(r.Space().Pending) == 0 {
			t.Error("nothing pends")
		}
	}
}

// P13.3: pages that were taken, and are no node's.
func TestCheckOfTakenPages(t *testing.T) {
	for _, count := range []int{0, 1, 40, 300} {
		r, _, p := grown(t, count)
		var taken []int
		for i := range 5 {
			taken = append(taken, take(t, r))
			checks(t, r, i+1)
		}
		put(t, r, "a", "1")
		checks(t, r, 5)
		if e := r.Drop(taken[2]); e != api.OK {
			t.Fatal(e)
		}
		checks(t, r, 4)
		if l := lostPages(t, r); l != 4 {
			t.Errorf("%d pages lost", l)
		}
		// They are lost for a tree that is opened of these lists, until it drops them.
		s := again(t, r, p)
		checks(t, s, 4)
		if e := s.Drop(taken[0]); e != api.OK {
			t.Fatal(e)
		}
		checks(t, s, 3)
		checks(t, r, 4)
	}
}

// P13.3: how many pages are lost, of a tree laid by hand.
func TestCheckOfLostPages(t *testing.T) {
	f := func(epoch, page int) api.Freed { return api.Freed{Epoch: epoch, Page: page} }
	for _, c := range []struct {
		lists api.Space
		want  int
	}{
		{api.Space{High: 11}, 0},
		{api.Space{High: 12}, 1},
		{api.Space{High: 40}, 29},
		{api.Space{High: 12, Free: []int{11}}, 0},
		{api.Space{High: 20, Free: []int{11, 14, 19}}, 6},
		{api.Space{High: 20, Pending: []api.Freed{f(0, 19), f(9, 11)}}, 7},
		{api.Space{High: 20, Free: []int{12, 13, 14}, Pending: []api.Freed{f(1, 19), f(2, 11), f(2, 15)}}, 3},
		{api.Space{High: 14, Free: []int{11, 13}, Pending: []api.Freed{f(1, 12)}}, 0},
	} {
		m := threeLevels()
		m.lists = c.lists
		r, _ := m.laid(t)
		checks(t, r, c.want)
		if n := lostPages(t, r); n != c.want {
			t.Errorf("%v: %d are lost", c.lists, n)
		}
	}
	for _, c := range []struct {
		lists api.Space
		want  int
	}{{api.Space{High: 2}, 0}, {api.Space{High: 3}, 1}, {api.Space{High: 40}, 38}, {api.Space{High: 9, Free: []int{2}, Pending: []api.Freed{f(1, 8)}}, 5}} {
		m := &made{lists: c.lists}
		r, _ := m.laid(t)
		checks(t, r, c.want)
	}
}

// oneLeaf is a tree of one leaf.
func oneLeaf(n api.Node) *made {
	return &made{nodes: map[int]api.Node{2: n}, at: api.Super{Root: 2, Height: 1, Count: len(n.Keys)}, lists: api.Space{High: 3}}
}

// shapeless asks Check of a tree for ErrShape; the others tell its entries and
// its pages all the same.
func shapeless(t *testing.T, what string, m *made) {
	t.Helper()
	r, _ := m.laid(t)
	if n, e := scan.Check(r); n != 0 || e != api.ErrShape {
		t.Errorf("%s: Check: %d, %d", what, n, e)
	}
	if l, e := scan.Pages(r); len(l) != len(m.nodes) || e != api.OK {
		t.Errorf("%s: Pages: %v, %d", what, l, e)
	}
	if l, e := scan.Range(r, "", "", 99); len(l) != len(m.entries()) || e != api.OK {
		t.Errorf("%s: Range: %d entries, %d", what, len(l), e)
	}
	// The tree told no error, so it is not lost.
	if _, _, e := r.Get("a"); e != api.OK {
		t.Errorf("%s: Get: %d", what, e)
	}
}

// shaped asks Check of a tree for OK.
func shaped(t *testing.T, what string, m *made) {
	t.Helper()
	r, _ := m.laid(t)
	if n, e := scan.Check(r); n != 0 || e != api.OK {
		t.Errorf("%s: Check: %d, %d", what, n, e)
	}
}

// P13.3: pages that may not be a node's.
func TestCheckOfPages(t *testing.T) {
	m := oneLeaf(leafOf(100))
	m.nodes = map[int]api.Node{1: m.nodes[2]}
	m.at.Root = 1
	shapeless(t, "the root ahead of First", m)
	m.lists.High = 2
	shapeless(t, "the root ahead of First, and High First", m)
	for _, high := range []int{2, 3, 5, 9, 10} {
		m = threeLevels()
		m.lists.High = high
		shapeless(t, fmt.Sprint("High ", high), m)
	}
	for page := range threeLevels().nodes {
		m = threeLevels()
		m.lists.Free = []int{page}
		shapeless(t, fmt.Sprint("free ", page), m)
		m = threeLevels()
		m.lists.Pending = []api.Freed{{Epoch: 1, Page: page}}
		shapeless(t, fmt.Sprint("pending ", page), m)
		m = threeLevels()
		m.lists = api.Space{High: 30, Free: slices.Sorted(slices.Values([]int{11, page, 25})), Pending: []api.Freed{{Epoch: 9, Page: 24}}}
		shapeless(t, fmt.Sprint("free among others ", page), m)
	}
	m = oneLeaf(leafOf(100))
	m.lists.High = 2
	shapeless(t, "the root at High", m)
	m.lists.High = 3
	shaped(t, "the root ahead of High", m)
}

// leafBytes is a leaf of two entries, of so many bytes together, of keys from
// a number's on.
func leafBytes(first, bytes int) api.Node {
	n := api.Node{Leaf: true, Keys: []string{key(first), key(first+1) + strings.Repeat("k", 40)}}
	rest := bytes - 2 - 2*2 - len(n.Keys[0]) - len(n.Keys[1])
	n.Vals = []string{strings.Repeat("v", rest/2), strings.Repeat("v", rest-rest/2)}
	return n
}

// P13.3: nodes of 250 bytes and of 251, as the root and not as the root.
func TestCheckOfSmallNodes(t *testing.T) {
	for _, bytes := range []int{249, 250, 251, 252} {
		if n := leafBytes(100, bytes); node.Size(n) != bytes {
			t.Fatalf("%d bytes, not %d", node.Size(n), bytes)
		}
		shaped(t, "a small root", oneLeaf(leafBytes(100, bytes)))
		for i, page := range []int{5, 7, 9, 6, 8, 10} {
			m := threeLevels()
			m.nodes[page] = leafBytes(100*(i+1), bytes)
			m.at.Count = 27
			if bytes > 250 {
				shaped(t, fmt.Sprint("page ", page, " of ", bytes), m)
			} else {
				shapeless(t, fmt.Sprint("page ", page, " of ", bytes), m)
			}
		}
	}
	for _, page := range []int{3, 4} {
		for _, bytes := range []int{16, 249, 250, 251, 252} {
			m := threeLevels()
			n := m.nodes[page]
			// Both keys, shorter ones, of 244 bytes with their kids' and length's.
			first := max(6, min(117, bytes-6-10-117))
			second := bytes - 6 - 10 - first
			low := map[int]int{3: 200, 4: 500}[page]
			if bytes == 16 {
				first, second = 6, 6
			}
			n.Keys = []string{between(low, first), between(low+100, second)}
			if bytes > 16 && node.Size(n) != bytes {
				t.Fatalf("%d bytes, not %d", node.Size(n), bytes)
			}
			m.nodes[page] = n
			if bytes > 250 {
				shaped(t, fmt.Sprint("inner page ", page, " of ", bytes), m)
			} else {
				shapeless(t, fmt.Sprint("inner page ", page, " of ", bytes), m)
			}
		}
	}
	shaped(t, "a root of one entry", oneLeaf(api.Node{Leaf: true, Keys: []string{"a"}, Vals: []string{""}}))
}

// P13.3: nodes that just fit; such of more bytes are no frame's, so the page
// tells ErrPage.
func TestCheckOfGreatNodes(t *testing.T) {
	great := func(bytes int) api.Node {
		n := api.Node{Leaf: true}
		for i := range 10 {
			n.Keys = append(n.Keys, key(100+i))
			n.Vals = append(n.Vals, strings.Repeat("v", 91))
		}
		n.Vals[9] = n.Vals[9][:91+bytes-(2+10*(2+6+91))]
		return n
	}
	shaped(t, "a root that just fits", oneLeaf(great(992)))
	full := great(992)
	full.Vals[0] += "vvvvvvvv"
	if node.Size(full) != api.MaxData {
		t.Fatal(node.Size(full))
	}
	shaped(t, "a root of all bytes", oneLeaf(full))
	m := threeLevels()
	m.nodes[5], m.at.Count = full, 35
	shaped(t, "a leaf of all bytes", m)

	full.Vals[1] += "v"
	for page := 5; page <= 10; page++ {
		each(t, "a node that does not fit", threeLevels(), api.ErrPage, func(d *disk.Disk) { d.Write(page, byHand(page, full)) })
	}
	// The frame that is written by hand is one, of a node that fits.
	full.Vals[1] = full.Vals[1][1:]
	r, d := m.laid(t)
	d.Write(5, byHand(5, full))
	checks(t, r, 0)
}

// byHand are the bytes of a leaf's frame, how many soever there are.
func byHand(page int, n api.Node) []byte {
	data := []byte{0, byte(len(n.Keys))}
	for i, k := range n.Keys {
		data = append(append(data, byte(len(k))), k...)
		data = append(append(data, byte(len(n.Vals[i]))), n.Vals[i]...)
	}
	b := []byte{api.FLeaf, 0, 0, byte(page >> 8), byte(page), byte(len(data) >> 8), byte(len(data))}
	b = append(b, data...)
	s := crc.Sum(b)
	return append(b, byte(s>>24), byte(s>>16), byte(s>>8), byte(s))
}

// rekeyed puts another key in the place of one of a node's.
func (m *made) rekeyed(page, i int, k string) *made {
	n := m.nodes[page]
	n.Keys = slices.Clone(n.Keys)
	n.Keys[i] = k
	m.nodes[page] = n
	return m
}

// P13.3: keys that do not lie where the nodes above lead.
func TestCheckOfKeys(t *testing.T) {
	// The pages of the leaves, the key ahead of each (if there is one), and the one
	// behind it.
	for i, page := range []int{5, 7, 9, 6, 8, 10} {
		first := 100 * (i + 1)
		bytes := func(n int) int {
			if n == 400 {
				return 10
			}
			return 120
		}
		what := fmt.Sprint("leaf ", page)
		if i > 0 {
			lead := between(first, bytes(first))
			shaped(t, what+": equal to the key ahead", threeLevels().rekeyed(page, 0, lead))
			shapeless(t, what+": just before the key ahead", threeLevels().rekeyed(page, 0, lead[:len(lead)-1]))
			shapeless(t, what+": before the key ahead", threeLevels().rekeyed(page, 0, key(first-50)))
			shapeless(t, what+": before all", threeLevels().rekeyed(page, 0, "\x00"))
		}
		if i < 5 {
			next := between(first+100, bytes(first+100))
			shaped(t, what+": just before the key behind", threeLevels().rekeyed(page, 4, next[:len(next)-1]))
			shapeless(t, what+": equal to the key behind", threeLevels().rekeyed(page, 4, next))
			shapeless(t, what+": behind the key behind", threeLevels().rekeyed(page, 4, key(first+100)))
			shapeless(t, what+": behind all", threeLevels().rekeyed(page, 4, "\xff"))
		} else {
			shaped(t, what+": behind all", threeLevels().rekeyed(page, 4, "\xff"))
		}
	}
	shaped(t, "the first key", threeLevels().rekeyed(5, 0, "\x00"))
}

// P13.3: keys that lie where their node leads, but not where the root does.
func TestCheckOfKeysBeneathTwoNodes(t *testing.T) {
	root := between(400, 10)
	// five is a tree of one more leaf, in page 11.
	five := func(page int, n, leaf api.Node) *made {
		m := threeLevels()
		m.nodes[page], m.nodes[11] = n, leaf
		m.nodes[6] = leafOf(410)
		m.lists.High, m.at.Count = 12, 35
		return m
	}
	before, behind := between(350, 120), root+strings.Repeat("x", 110)
	shapeless(t, "before the root's key", five(4, inner([]string{before, between(500, 120), between(600, 120)}, 11, 6, 8, 10), leafOf(340)))
	shapeless(t, "behind the root's key", five(3, inner([]string{between(200, 120), between(300, 120), behind}, 5, 7, 9, 11), leafOf(400)))
	shapeless(t, "at the root's key", five(3, inner([]string{between(200, 120), between(300, 120), root}, 5, 7, 9, 11), leafOf(400)))
	shaped(t, "before the root's key", five(3, inner([]string{between(200, 120), between(300, 120), before}, 5, 7, 9, 11), leafOf(360)))
	ahead := api.Node{Leaf: true, Keys: []string{root, root + "a", root + "b"}, Vals: leafOf(1).Vals[:3]}
	m := five(4, inner([]string{behind, between(500, 120), between(600, 120)}, 11, 6, 8, 10), ahead)
	m.at.Count = 33
	shaped(t, "behind the root's key", m)
}

// P13.3: the root is a leaf without entries.
func TestCheckOfEmptyRoot(t *testing.T) {
	m := oneLeaf(api.Node{Leaf: true})
	shapeless(t, "a root without entries", m)
	m.lists.High = 5
	shapeless(t, "a root without entries, and pages lost", m)
	// A tree without a root has none.
	r, _ := (&made{lists: api.Space{High: 3}}).laid(t)
	checks(t, r, 1)
}

// P13.3: a leaf without entries that is not the root has too few bytes.
func TestCheckOfEmptyLeaves(t *testing.T) {
	for _, page := range []int{5, 6, 7, 8, 9, 10} {
		m := threeLevels()
		m.nodes[page] = api.Node{Leaf: true}
		m.at.Count = 25
		shapeless(t, fmt.Sprint("a leaf without entries: ", page), m)
	}
}

// P13.3: how many entries there are.
func TestCheckOfCounts(t *testing.T) {
	for _, count := range []int{math.MinInt, -30, -1, 0, 1, 29, 31, 1<<32 + 30, math.MaxInt} {
		m := threeLevels()
		m.at.Count = count
		shapeless(t, fmt.Sprint("Count ", count), m)
	}
	for _, count := range []int{math.MinInt, -1, 1, 2, math.MaxInt} {
		shapeless(t, fmt.Sprint("Count of no entries ", count), &made{at: api.Super{Count: count}, lists: api.Space{High: 2}})
	}
	for _, count := range []int{-1, 0, 4, 6} {
		m := oneLeaf(leafOf(100))
		m.at.Count = count
		shapeless(t, fmt.Sprint("Count of one leaf ", count), m)
	}
	eachTree(t, func(t *testing.T, r *tree.Tree, _ []api.Entry, p *pool.Pool) {
		for _, more := range []int{-1, 1} {
			at := r.At()
			at.Count += more
			if n, e := scan.Check(open(t, p, at, r.Space(), 2)); n != 0 || e != api.ErrShape {
				t.Errorf("Count %d of %d: %d, %d", at.Count, r.At().Count, n, e)
			}
		}
	})
}

// R2: an error that a page tells is told ahead of ErrShape, also where that
// stands ahead of the page.
func TestErrorsAheadOfShapes(t *testing.T) {
	for what, m := range map[string]*made{
		"a page that is free":   func() *made { m := threeLevels(); m.lists.Free = []int{3}; return m }(),
		"a page beyond High":    func() *made { m := threeLevels(); m.lists.High = 4; return m }(),
		"a key before":          threeLevels().rekeyed(7, 0, "\x00"),
		"a Count of one more":   func() *made { m := threeLevels(); m.at.Count = 31; return m }(),
		"a leaf of few entries": func() *made { m := threeLevels(); m.nodes[5] = leafBytes(100, 200); return m }(),
	} {
		r, d := m.laid(t)
		d.Turn(10, 30, 1)
		if n, e := scan.Check(r); n != 0 || e != api.ErrPage {
			t.Errorf("%s: %d, %d", what, n, e)
		}
		m.kid(4, 2, 77)
		r, _ = m.laid(t)
		if n, e := scan.Check(r); n != 0 || e != api.ErrDisk {
			t.Errorf("%s: %d, %d", what, n, e)
		}
	}
}

// R1: a tree that is none, ahead of all else.
func TestNoTree(t *testing.T) {
	for _, r := range []*tree.Tree{nil, {}} {
		allFail(t, r, api.ErrArg)
		fails(t, r, "a", "", 0, api.ErrArg)
		fails(t, r, "b", "a", 9, api.ErrArg)
		fails(t, r, "", "", -1, api.ErrArg)
	}
}

// P12.5: a tree that told an error tells that one whatever is asked.
func TestLostTrees(t *testing.T) {
	lose := func(m *made, how func(r *tree.Tree, d *disk.Disk) api.Errno) {
		t.Helper()
		r, d := m.laid(t)
		e := how(r, d)
		if e == api.OK {
			t.Fatal("it is not lost")
		}
		d.Restart(nil)
		allFail(t, r, e)
		fails(t, r, "b", "a", 9, e)
		fails(t, r, "", "", 0, e)
	}
	for _, m := range []*made{threeLevels(), oneLeaf(leafOf(100)), {lists: api.Space{High: 3}}} {
		lose(m, func(r *tree.Tree, _ *disk.Disk) api.Errno { return r.Drop(30) })
		lose(m, func(r *tree.Tree, _ *disk.Disk) api.Errno { _, e := r.Node(99); return e })
		lose(m, func(r *tree.Tree, _ *disk.Disk) api.Errno { _, e := r.Node(0); return e })
		lose(m, func(r *tree.Tree, d *disk.Disk) api.Errno {
			d.Fuse(0)
			d.Flush()
			_, e := r.Node(38)
			return e
		})
		lose(m, func(r *tree.Tree, _ *disk.Disk) api.Errno {
			for {
				if _, e := r.Take(); e != api.OK {
					return e
				}
			}
		})
	}
	// ErrEntry does not lose it.
	m := threeLevels()
	r, _ := m.laid(t)
	if e := r.Put("", ""); e != api.ErrEntry {
		t.Fatal(e)
	}
	ranges(t, r, "", "", 99, m.entries())
	checks(t, r, 0)
}

// P12.5: an error that a page tells in a scan loses the tree.
func TestScansThatLose(t *testing.T) {
	for name, ask := range asks() {
		m := threeLevels()
		m.kid(4, 2, 77)
		r, _ := m.laid(t)
		if e := ask(r); e != api.ErrDisk {
			t.Fatalf("%s: %d", name, e)
		}
		allFail(t, r, api.ErrDisk)
		if e := r.Put("a", "b"); e != api.ErrDisk {
			t.Errorf("%s: Put: %d", name, e)
		}
		fails(t, r, key(100), key(101), 9, api.ErrDisk)
	}
}

// R3: nothing changes by a scan.
func TestScansChangeNothing(t *testing.T) {
	eachTree(t, func(t *testing.T, r *tree.Tree, model []api.Entry, p *pool.Pool) {
		p.Flush()
		at, s, lasts := r.At(), r.Space(), p.Disk().Lasts()
		for range 2 {
			ranges(t, r, "", "", math.MaxInt, model)
			pages(t, r, nodePages(t, r))
			checks(t, r, 0)
		}
		a, u := r.At(), r.Space()
		if a.Root != at.Root || a.Height != at.Height || a.Count != at.Count || a.Epoch != at.Epoch {
			t.Errorf("At: %v, not %v", a, at)
		}
		if u.High != s.High || !slices.Equal(u.Free, s.Free) || !slices.Equal(u.Pending, s.Pending) {
			t.Errorf("Space: %v, not %v", u, s)
		}
		if !slices.EqualFunc(p.Disk().Lasts(), lasts, func(x, y api.Held) bool {
			return x.Sector == y.Sector && slices.Equal(x.Data, y.Data)
		}) || len(p.Disk().Waits()) != 0 {
			t.Error("the disk is another one")
		}
	})
}

// R4: what is answered is memory of its own, its spare room included.
func TestAnswersAreNew(t *testing.T) {
	eachTree(t, func(t *testing.T, r *tree.Tree, model []api.Entry, _ *pool.Pool) {
		whole := nodePages(t, r)
		for range 2 {
			l, _ := scan.Range(r, "", "", math.MaxInt)
			clear(l[:cap(l)])
			p, _ := scan.Pages(r)
			clear(p[:cap(p)])
		}
		ranges(t, r, "", "", math.MaxInt, model)
		pages(t, r, whole)
		checks(t, r, 0)
	})
	a, _ := threeLevels().laid(t)
	l, _ := scan.Range(a, "", "", 3)
	k, _ := scan.Range(a, "", "", 9)
	_ = append(l, api.Entry{Key: "z"})
	if k[3].Key == "z" {
		t.Error("two answers share their room")
	}
}

// R5, W3: how many frames the pool has is not seen.
func TestFramesAreNotSeen(t *testing.T) {
	tell := func(frames int) string {
		r, p := planted(t, 300, frames)
		told := ""
		random := rand.New(rand.NewSource(5))
		for i := range 1200 {
			k := key(random.Intn(200))
			if random.Intn(3) == 0 {
				r.Delete(k)
			} else {
				r.Put(k, val(random.Intn(99)))
			}
			if i%50 == 0 {
				r = again(t, r, p)
			}
			if i%20 == 0 {
				l, e := scan.Range(r, key(random.Intn(200)), "", random.Intn(30))
				told += fmt.Sprint(l, e)
				m, e := scan.Pages(r)
				n, f := scan.Check(r)
				told += fmt.Sprint(m, e, n, f)
			}
		}
		return told
	}
	want := tell(2)
	for _, frames := range []int{3, 5, 64} {
		if tell(frames) != want {
			t.Errorf("%d frames are seen", frames)
		}
	}
}

// P13.1 to P13.4: long scripts of changes, held against a model.
func TestScripts(t *testing.T) {
	for seed := range int64(8) {
		random := rand.New(rand.NewSource(seed))
		r, p := planted(t, 900, 2+random.Intn(4))
		model := map[string]string{}
		others := 0
		for range 800 {
			k := strings.Repeat("k", random.Intn(100)) + key(random.Intn(150))
			switch random.Intn(20) {
			case 0:
				r = again(t, r, p)
			case 1:
				take(t, r)
				others++
			case 2, 3, 4, 5, 6, 7:
				if keys := slices.Sorted(maps.Keys(model)); len(keys) > 0 {
					k = keys[random.Intn(len(keys))]
					remove(t, r, k)
					delete(model, k)
				}
			default:
				model[k] = val(random.Intn(70))
				put(t, r, k, model[k])
			}
			if random.Intn(8) == 0 {
				heldAgainst(t, r, model, others, random)
			}
		}
	}
}

// heldAgainst asks all three of a tree that holds a model's entries.
func heldAgainst(t *testing.T, r *tree.Tree, model map[string]string, others int, random *rand.Rand) {
	t.Helper()
	var all []api.Entry
	for k, v := range model {
		all = append(all, api.Entry{Key: k, Val: v})
	}
	slices.SortFunc(all, func(a, b api.Entry) int { return cmp.Compare(a.Key, b.Key) })
	end := func() string { return strings.Repeat("k", random.Intn(100)) + key(random.Intn(150)) }
	for _, c := range [][2]string{{"", ""}, {end(), ""}, {"", end()}, {end(), end()}} {
		most := random.Intn(len(all) + 3)
		ranges(t, r, c[0], c[1], most, wanted(all, c[0], c[1], most))
	}
	pages(t, r, nodePages(t, r))
	checks(t, r, others)
}

// W6: trees of any nodes, in any pages, are gone through to an end.
func TestAnyTrees(t *testing.T) {
	random := rand.New(rand.NewSource(9))
	told := map[api.Errno]int{}
	for range 3000 {
		m := &made{nodes: map[int]api.Node{}, lists: api.Space{High: 2 + random.Intn(39)}}
		for page := 2; page < 14; page++ {
			n := api.Node{Leaf: random.Intn(3) == 0}
			keys := map[string]int{}
			for range 1 + random.Intn(3) {
				keys[strings.Repeat(key(random.Intn(20)), 19)] = 0
			}
			n.Keys = slices.Sorted(maps.Keys(keys))
			for range n.Keys {
				if n.Leaf {
					n.Vals = append(n.Vals, "v")
				} else {
					n.Kids = append(n.Kids, 2+random.Intn(12))
				}
			}
			if !n.Leaf {
				n.Kids = append(n.Kids, 2+random.Intn(12))
			}
			m.nodes[page] = n
		}
		m.at = api.Super{Root: 2 + random.Intn(12), Height: 1 + random.Intn(4), Count: random.Intn(4)}
		r, _ := m.laid(t)
		l, e := scan.Range(r, key(random.Intn(20)), key(random.Intn(20)), random.Intn(9))
		if e != api.OK && (len(l) != 0 || e != api.ErrPage) {
			t.Errorf("Range: %v, %d", l, e)
		}
		p, e := scan.Pages(r)
		if e != api.OK && (len(p) != 0 || e != api.ErrPage) || !slices.IsSorted(p) {
			t.Errorf("Pages: %v, %d", p, e)
		}
		n, f := scan.Check(r)
		if f != api.OK && (n != 0 || f != api.ErrPage && f != api.ErrShape) || (e == api.ErrPage) != (f == api.ErrPage) {
			t.Errorf("Check: %d, %d, and Pages %d", n, f, e)
		}
		told[f]++
	}
	if told[api.ErrPage] == 0 || told[api.ErrShape] == 0 {
		t.Errorf("%v", told)
	}
}
