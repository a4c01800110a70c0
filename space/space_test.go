package space_test

import (
	"bytes"
	"math"
	"slices"
	"testing"

	"tailrace/api"
	"tailrace/frame"
	"tailrace/space"
)

const top = 1<<31 - 1

// lists makes pages' lists: High, Free, and Epoch and Page of each that pends.
func lists(high int, free []int, pending ...int) api.Space {
	return api.Space{High: high, Free: free, Pending: freed(pending...)}
}

func freed(pairs ...int) []api.Freed {
	var l []api.Freed
	for ; len(pairs) > 0; pairs = pairs[2:] {
		l = append(l, api.Freed{Epoch: pairs[0], Page: pairs[1]})
	}
	return l
}

func same(a, b api.Space) bool {
	return a.High == b.High && slices.Equal(a.Free, b.Free) && slices.Equal(a.Pending, b.Pending)
}

// copied is s in memory of its own.
func copied(s api.Space) api.Space {
	return api.Space{High: s.High, Free: slices.Clone(s.Free), Pending: slices.Clone(s.Pending)}
}

func none(s api.Space) bool { return same(s, api.Space{}) }

// told asks for an answer's lists and error.
func told(t *testing.T, call string, s api.Space, e api.Errno, want api.Space, no api.Errno) {
	t.Helper()
	if !same(s, want) || e != no {
		t.Errorf("%s: %v, %d, not %v, %d", call, s, e, want, no)
	}
}

func checks(t *testing.T, s api.Space, most int, want api.Errno) {
	t.Helper()
	if e := space.Check(s, most); e != want {
		t.Errorf("Check(%v, %d): %d, not %d", s, most, e, want)
	}
}

func takes(t *testing.T, s api.Space, most int, want api.Space, page int, no api.Errno) {
	t.Helper()
	u, p, e := space.Take(s, most)
	told(t, "Take", u, e, want, no)
	if p != page {
		t.Errorf("Take(%v, %d): page %d, not %d", s, most, p, page)
	}
}

func gives(t *testing.T, s api.Space, epoch, page int, want api.Space) {
	t.Helper()
	u, e := space.Give(s, epoch, page)
	told(t, "Give", u, e, want, api.OK)
}

func givesNot(t *testing.T, s api.Space, epoch, page int) {
	t.Helper()
	if u, e := space.Give(s, epoch, page); !none(u) || e != api.ErrArg {
		t.Errorf("Give(%v, %d, %d): %v, %d, not ErrArg", s, epoch, page, u, e)
	}
}

func goesBack(t *testing.T, s api.Space, page int, want api.Space) {
	t.Helper()
	u, e := space.Back(s, page)
	told(t, "Back", u, e, want, api.OK)
}

func goesNotBack(t *testing.T, s api.Space, page int) {
	t.Helper()
	if u, e := space.Back(s, page); !none(u) || e != api.ErrArg {
		t.Errorf("Back(%v, %d): %v, %d, not ErrArg", s, page, u, e)
	}
}

func reclaims(t *testing.T, s api.Space, epoch, budget int, want api.Space, many int) {
	t.Helper()
	u, n := space.Reclaim(s, epoch, budget)
	if !same(u, want) || n != many {
		t.Errorf("Reclaim(%v, %d, %d): %v, %d, not %v, %d", s, epoch, budget, u, n, want, many)
	}
}

func decodes(t *testing.T, parts [][]byte, want api.Space) {
	t.Helper()
	s, e := space.Decode(parts)
	told(t, "Decode", s, e, want, api.OK)
}

func decodesNot(t *testing.T, what string, parts [][]byte) {
	t.Helper()
	if s, e := space.Decode(parts); !none(s) || e != api.ErrSpace {
		t.Errorf("Decode of %s: %v, %d, not ErrSpace", what, s, e)
	}
}

// rows are the numbers from one to another one.
func rows(from, to int) []int {
	var l []int
	for i := from; i <= to; i++ {
		l = append(l, i)
	}
	return l
}

// parts are numbers' bytes, in parts of so many.
func parts(size int, l ...int) [][]byte {
	return slices.Collect(slices.Chunk(frame.Numbers(l), size))
}

// The chapter's examples.
func TestExamples(t *testing.T) {
	takes(t, lists(2, nil), 4, lists(3, nil), 2, api.OK)
	takes(t, lists(4, nil), 4, api.Space{}, 0, api.ErrFull)
	gives(t, lists(4, nil), 5, 3, lists(4, nil, 5, 3))
	givesNot(t, lists(4, nil), 5, 4)
	reclaims(t, lists(9, nil, 1, 5, 1, 4, 2, 3), 1, 9, lists(9, []int{4, 5}, 2, 3), 2)
}

// P8.1
func TestCheck(t *testing.T) {
	ok, no := api.OK, api.ErrSpace
	for _, c := range []struct {
		high, most int
		want       api.Errno
	}{
		{1, 9, no}, {2, 9, ok}, {3, 9, ok}, {8, 9, ok}, {9, 9, ok}, {10, 9, no},
		{2, 2, ok}, {2, 1, no}, {3, 2, no}, {0, 9, no}, {-1, 9, no}, {0, 0, no}, {1, 1, no}, {2, -1, no}, {-2, -1, no},
		{math.MinInt, math.MaxInt, no}, {math.MinInt, math.MinInt, no}, {math.MaxInt, math.MaxInt, ok},
		{math.MaxInt, math.MaxInt - 1, no}, {2, math.MaxInt, ok}, {2, math.MinInt, no}, {top, top, ok}, {top + 1, top, no},
	} {
		checks(t, lists(c.high, nil), c.most, c.want)
	}
	for _, c := range []struct {
		free []int
		want api.Errno
	}{
		{[]int{}, ok}, {[]int{2}, ok}, {[]int{8}, ok}, {[]int{2, 3, 8}, ok}, {rows(2, 8), ok},
		{[]int{1}, no}, {[]int{9}, no}, {[]int{0}, no}, {[]int{-1}, no}, {[]int{1, 2}, no}, {[]int{2, 9}, no},
		{[]int{3, 2}, no}, {[]int{3, 3}, no}, {[]int{2, 4, 3}, no}, {[]int{2, 4, 4}, no}, {[]int{4, 2, 3}, no},
		{[]int{math.MinInt}, no}, {[]int{math.MaxInt}, no}, {[]int{math.MinInt, math.MaxInt}, no},
	} {
		checks(t, lists(9, c.free), 9, c.want)
	}
	for _, c := range []struct {
		pending []int
		want    api.Errno
	}{
		{[]int{0, 2}, ok}, {[]int{0, 8}, ok}, {[]int{5, 8, 5, 2, 5, 4}, ok}, {[]int{0, 5, 1, 4, 7, 3}, ok},
		{[]int{math.MaxInt, 2}, ok}, {[]int{0, 2, math.MaxInt, 3}, ok},
		{[]int{0, 1}, no}, {[]int{0, 9}, no}, {[]int{0, 0}, no}, {[]int{0, -2}, no}, {[]int{0, 2, 0, 1}, no}, {[]int{0, 2, 0, 9}, no},
		{[]int{1, 2, 0, 3}, no}, {[]int{0, 2, 2, 3, 1, 4}, no}, {[]int{-1, 2}, no}, {[]int{-1, 2, 0, 3}, no}, {[]int{math.MinInt, 2}, no},
		{[]int{0, 2, 0, 2}, no}, {[]int{0, 2, 1, 2}, no}, {[]int{0, 2, 0, 3, 0, 2}, no}, {[]int{0, math.MaxInt}, no}, {[]int{0, math.MinInt}, no},
	} {
		checks(t, lists(9, nil, c.pending...), 9, c.want)
	}
	checks(t, lists(9, []int{3, 5}, 0, 4, 1, 2), 9, ok)
	checks(t, lists(9, []int{3, 5}, 0, 4, 1, 3), 9, no)
	checks(t, lists(9, []int{3, 5}, 0, 5, 1, 2), 9, no)
	checks(t, lists(2, []int{2}), 9, no)
	checks(t, lists(2, nil, 0, 2), 9, no)
	checks(t, lists(3, []int{2}), 9, ok)
	checks(t, lists(3, nil, 0, 2), 9, ok)
	checks(t, lists(10, []int{2}), 9, no)
}

// mayBe tells P8.1 word by word.
func mayBe(s api.Space, most int) bool {
	if s.High < api.First || s.High > most {
		return false
	}
	met := map[int]int{}
	for i, p := range s.Free {
		if i > 0 && s.Free[i-1] >= p {
			return false
		}
		met[p]++
	}
	for i, f := range s.Pending {
		if f.Epoch < 0 || i > 0 && s.Pending[i-1].Epoch > f.Epoch {
			return false
		}
		met[f.Page]++
	}
	for p, n := range met {
		if n != 1 || p < api.First || p > s.High-1 {
			return false
		}
	}
	return true
}

// small goes through all lists of at most two pages each, of numbers about the edges.
func small(yield func(api.Space)) {
	frees, pendings := [][]int{nil}, [][]int{nil}
	for a := 0; a < 6; a++ {
		frees = append(frees, []int{a})
		for b := 0; b < 6; b++ {
			frees = append(frees, []int{a, b})
		}
	}
	for a := -2; a < 4; a++ {
		for p := 1; p < 6; p++ {
			pendings = append(pendings, []int{a, p})
			for b := -1; b < 3; b++ {
				for q := 1; q < 6; q++ {
					pendings = append(pendings, []int{a, p, b, q})
				}
			}
		}
	}
	for high := 1; high < 6; high++ {
		for _, f := range frees {
			for _, p := range pendings {
				yield(lists(high, f, p...))
			}
		}
	}
}

// P8.1, P8.5: all small lists.
func TestCheckAll(t *testing.T) {
	some := 0
	small(func(s api.Space) {
		for _, most := range []int{2, 4, 5} {
			want := api.ErrSpace
			if mayBe(s, most) {
				want = api.OK
				some++
			}
			checks(t, s, most, want)
		}
		// Numbers below 0 are others in bytes: Decode tells none.
		if d, e := space.Decode(space.Encode(s)); mayBe(s, top) != (e == api.OK) || e == api.OK && !same(d, s) || e != api.OK && !none(d) {
			t.Errorf("Decode of Encode(%v): %v, %d", s, d, e)
		}
	})
	if some < 200 {
		t.Errorf("only %d lists may be", some)
	}
}

// P8.2
func TestTake(t *testing.T) {
	full := api.Space{}
	takes(t, lists(2, nil), 3, lists(3, nil), 2, api.OK)
	takes(t, lists(2, nil), 2, full, 0, api.ErrFull)
	takes(t, lists(3, nil), 2, full, 0, api.ErrFull)
	takes(t, lists(3, nil), -1, full, 0, api.ErrFull)
	takes(t, lists(5, nil, 1, 4, 2, 2), 6, lists(6, nil, 1, 4, 2, 2), 5, api.OK)
	takes(t, lists(5, nil, 1, 4, 2, 2), 5, full, 0, api.ErrFull)
	takes(t, lists(math.MaxInt, nil), math.MaxInt, full, 0, api.ErrFull)
	takes(t, lists(math.MaxInt-1, nil), math.MaxInt, lists(math.MaxInt, nil), math.MaxInt-1, api.OK)
	for _, most := range []int{math.MinInt, 0, 8, 9, 10, math.MaxInt} {
		takes(t, lists(9, []int{4}), most, lists(9, nil), 4, api.OK)
		takes(t, lists(9, []int{4, 6, 8}, 1, 3), most, lists(9, []int{6, 8}, 1, 3), 4, api.OK)
	}
}

// P8.3
func TestGive(t *testing.T) {
	empty := lists(9, nil)
	for _, page := range []int{2, 5, 8} {
		gives(t, empty, 0, page, lists(9, nil, 0, page))
		gives(t, empty, math.MaxInt, page, lists(9, nil, math.MaxInt, page))
	}
	for _, page := range []int{1, 9, 0, -1, 10, math.MinInt, math.MaxInt} {
		givesNot(t, empty, 0, page)
	}
	givesNot(t, empty, -1, 5)
	givesNot(t, empty, math.MinInt, 5)

	s := lists(9, []int{2, 6}, 3, 8, 5, 4)
	gives(t, s, 5, 3, lists(9, []int{2, 6}, 3, 8, 5, 4, 5, 3))
	gives(t, s, 6, 7, lists(9, []int{2, 6}, 3, 8, 5, 4, 6, 7))
	for _, epoch := range []int{4, 3, 0, -1} {
		givesNot(t, s, epoch, 3)
	}
	for _, page := range []int{2, 6, 8, 4, 1, 9} {
		givesNot(t, s, 5, page)
		givesNot(t, s, 4, page)
	}
	givesNot(t, lists(2, nil), 0, 2)
	gives(t, lists(3, nil), 0, 2, lists(3, nil, 0, 2))
	givesNot(t, lists(math.MinInt, nil), 0, 2)
	givesNot(t, lists(math.MinInt, nil), 0, math.MaxInt)
}

// P8.3
func TestBack(t *testing.T) {
	empty := lists(9, nil)
	for _, page := range []int{2, 5, 8} {
		goesBack(t, empty, page, lists(9, []int{page}))
	}
	for _, page := range []int{1, 9, 0, -1, 10, math.MinInt, math.MaxInt} {
		goesNotBack(t, empty, page)
	}
	s := lists(9, []int{3, 6}, 3, 7, 5, 4)
	goesBack(t, s, 2, lists(9, []int{2, 3, 6}, 3, 7, 5, 4))
	goesBack(t, s, 5, lists(9, []int{3, 5, 6}, 3, 7, 5, 4))
	goesBack(t, s, 8, lists(9, []int{3, 6, 8}, 3, 7, 5, 4))
	for _, page := range []int{3, 6, 7, 4, 1, 9} {
		goesNotBack(t, s, page)
	}
	goesNotBack(t, lists(2, nil), 2)
	goesBack(t, lists(3, nil), 2, lists(3, []int{2}))
	goesNotBack(t, lists(math.MinInt, nil), 2)
	goesNotBack(t, lists(math.MinInt, nil), math.MaxInt)
}

// P8.4
func TestReclaim(t *testing.T) {
	s := lists(20, []int{5, 10}, 1, 12, 1, 3, 2, 7, 4, 4)
	for _, budget := range []int{math.MinInt, -1, 0} {
		reclaims(t, s, 9, budget, s, 0)
	}
	reclaims(t, s, 9, 1, lists(20, []int{5, 10, 12}, 1, 3, 2, 7, 4, 4), 1)
	reclaims(t, s, 9, 2, lists(20, []int{3, 5, 10, 12}, 2, 7, 4, 4), 2)
	reclaims(t, s, 9, 3, lists(20, []int{3, 5, 7, 10, 12}, 4, 4), 3)
	for _, budget := range []int{4, 5, math.MaxInt} {
		reclaims(t, s, 9, budget, lists(20, []int{3, 4, 5, 7, 10, 12}), 4)
		reclaims(t, s, 4, budget, lists(20, []int{3, 4, 5, 7, 10, 12}), 4)
		reclaims(t, s, 3, budget, lists(20, []int{3, 5, 7, 10, 12}, 4, 4), 3)
		reclaims(t, s, 2, budget, lists(20, []int{3, 5, 7, 10, 12}, 4, 4), 3)
		reclaims(t, s, 1, budget, lists(20, []int{3, 5, 10, 12}, 2, 7, 4, 4), 2)
		for _, epoch := range []int{0, -1, math.MinInt} {
			reclaims(t, s, epoch, budget, s, 0)
		}
		reclaims(t, lists(9, []int{2, 3}), 9, budget, lists(9, []int{2, 3}), 0)
		reclaims(t, lists(9, nil), 9, budget, lists(9, nil), 0)
	}
	falling := lists(9, nil, 0, 8, 0, 6, 1, 5, 1, 3, 1, 2)
	reclaims(t, falling, 1, 9, lists(9, []int{2, 3, 5, 6, 8}), 5)
	reclaims(t, falling, 0, 9, lists(9, []int{6, 8}, 1, 5, 1, 3, 1, 2), 2)
	reclaims(t, lists(9, nil, math.MaxInt, 8), math.MaxInt, 9, lists(9, []int{8}), 1)
	reclaims(t, lists(9, nil, math.MaxInt, 8), math.MaxInt-1, 9, lists(9, nil, math.MaxInt, 8), 0)
}

// P8.5
func TestEncode(t *testing.T) {
	small := lists(9, []int{2, 258}, 5, 3, 7, 4)
	want := []byte{0, 0, 0, 9, 0, 0, 0, 2, 0, 0, 0, 2, 0, 0, 1, 2, 0, 0, 0, 2, 0, 0, 0, 5, 0, 0, 0, 3, 0, 0, 0, 7, 0, 0, 0, 4}
	if p := space.Encode(small); len(p) != 1 || !bytes.Equal(p[0], want) {
		t.Errorf("%v", p)
	}
	if p := space.Encode(lists(2, nil)); len(p) != 1 || !bytes.Equal(p[0], []byte{0, 0, 0, 2, 0, 0, 0, 0, 0, 0, 0, 0}) {
		t.Errorf("%v", p)
	}
	// Three numbers stand beside the pages: 250 numbers are one part.
	for _, c := range []struct {
		free  int
		sizes []int
	}{
		{246, []int{996}}, {247, []int{1000}}, {248, []int{1000, 4}}, {497, []int{1000, 1000}}, {498, []int{1000, 1000, 4}}, {1000, []int{1000, 1000, 1000, 1000, 12}},
	} {
		s := lists(5000, rows(2, c.free+1))
		p := space.Encode(s)
		var sizes []int
		for _, b := range p {
			sizes = append(sizes, len(b))
		}
		if !slices.Equal(sizes, c.sizes) {
			t.Errorf("%d: %v, not %v", c.free, sizes, c.sizes)
		}
		l := append(append([]int{5000, c.free}, s.Free...), 0)
		if !bytes.Equal(slices.Concat(p...), frame.Numbers(l)) {
			t.Errorf("%d: other bytes", c.free)
		}
		decodes(t, p, s)
	}
	// An Epoch and its Page stand in two parts.
	s := lists(5000, rows(2, 247), 3, 300, 4, 301)
	p := space.Encode(s)
	if len(p) != 2 || len(p[0]) != 1000 || len(p[1]) != 12 {
		t.Errorf("%v", p)
	}
	decodes(t, p, s)
}

// P8.5
func TestDecode(t *testing.T) {
	decodes(t, parts(1000, 2, 0, 0), lists(2, nil))
	decodes(t, parts(1000, top, 1, 2, 1, top, top-1), lists(top, []int{2}, top, top-1))
	decodes(t, parts(1000, 9, 2, 3, 5, 2, 0, 8, 7, 2), lists(9, []int{3, 5}, 0, 8, 7, 2))
	for what, l := range map[string][]int{
		"no number":              {},
		"one number":             {9},
		"two numbers":            {9, 0},
		"a number more":          {9, 0, 0, 0},
		"two numbers more":       {9, 0, 0, 0, 2},
		"a page fewer":           {9, 2, 3, 0},
		"a page more":            {9, 1, 3, 4, 0},
		"pages, and no more":     {9, 1, 3},
		"many pages":             {9, top, 3, 0},
		"half of what pends":     {9, 0, 1, 0},
		"one fewer that pends":   {9, 0, 2, 0, 3},
		"one more that pends":    {9, 0, 1, 0, 3, 0, 4},
		"many that pend":         {9, 0, top, 0, 3},
		"half that pend":         {9, 0, 1 << 30, 0, 3},
		"Free below 0":           {9, -1, 0},
		"Free far below 0":       {9, -2, 0},
		"Pending below 0":        {9, 0, -1},
		"many of Free":           {9, 1 << 31, 0},
		"many of Pending":        {9, 0, 1 << 31},
		"High below 0":           {-9, 0, 0},
		"High above":             {top + 1, 0, 0},
		"a page above":           {9, 1, top + 1, 0},
		"a page below 0":         {9, 1, -2, 0},
		"an Epoch above":         {9, 0, 1, top + 1, 2},
		"an Epoch below 0":       {9, 0, 1, -1, 2},
		"High below First":       {1, 0, 0},
		"High of 0":              {0, 0, 0},
		"a page below First":     {9, 1, 1, 0},
		"a page of High":         {9, 1, 9, 0},
		"pages that do not rise": {9, 2, 4, 3, 0},
		"a page twice":           {9, 2, 3, 3, 0},
		"Epochs that fall":       {9, 0, 2, 2, 3, 1, 4},
		"a page in both":         {9, 1, 3, 1, 0, 3},
		"pends twice":            {9, 0, 2, 0, 3, 1, 3},
		"pends below First":      {9, 0, 1, 0, 1},
		"pends of High":          {9, 0, 1, 0, 9},
	} {
		decodesNot(t, what, parts(1000, l...))
	}
}

// P8.5: parts that are cut otherwise than Encode cuts them.
func TestDecodeParts(t *testing.T) {
	decodesNot(t, "no part", nil)
	decodesNot(t, "no part", [][]byte{})
	decodesNot(t, "an empty part", [][]byte{{}})
	decodesNot(t, "nil", [][]byte{nil})
	s := lists(5000, rows(2, 400), 3, 401)
	b := slices.Concat(space.Encode(s)...)
	if len(b) != 4*(3+399+2) {
		t.Fatalf("%d bytes", len(b))
	}
	decodes(t, [][]byte{b[:1000], b[1000:]}, s)
	for what, p := range map[string][][]byte{
		"one part":              {b},
		"short parts":           {b[:996], b[996:]},
		"long parts":            {b[:1004], b[1004:]},
		"parts by bytes":        {b[:999], b[999:]},
		"three parts":           {b[:1000], b[1000:1200], b[1200:]},
		"an empty part behind":  {b[:1000], b[1000:], {}},
		"an empty part ahead":   {{}, b[:1000], b[1000:]},
		"an empty part between": {b[:1000], nil, b[1000:]},
		"parts turned round":    {b[1000:], b[:1000]},
		"the first part":        {b[:1000]},
		"the last part":         {b[1000:]},
		"a byte fewer":          {b[:1000], b[1000 : len(b)-1]},
		"a byte more":           {b[:1000], append(slices.Clone(b[1000:]), 0)},
		"four bytes fewer":      {b[:1000], b[1000 : len(b)-4]},
		"four bytes more":       {b[:1000], append(slices.Clone(b[1000:]), 0, 0, 0, 0)},
	} {
		decodesNot(t, what, p)
	}
	small := space.Encode(lists(9, []int{3}))[0]
	decodesNot(t, "two parts", [][]byte{small[:8], small[8:]})
	for n := range small {
		decodesNot(t, "the beginning", [][]byte{small[:n]})
	}
	decodesNot(t, "a byte more", [][]byte{append(slices.Clone(small), 0)})
	whole := space.Encode(lists(5000, rows(2, 248)))
	decodes(t, whole, lists(5000, rows(2, 248)))
	decodesNot(t, "a part of none behind", append(whole, nil))
}

// model does the chapter's words one by one.
type model struct{ api.Space }

func (m model) known(page int) bool {
	for _, f := range m.Pending {
		if f.Page == page {
			return true
		}
	}
	return slices.Contains(m.Free, page)
}

func (m model) may(page int) bool { return page >= api.First && page < m.High && !m.known(page) }

func (m *model) insert(page int) {
	i := 0
	for i < len(m.Free) && m.Free[i] < page {
		i++
	}
	m.Free = slices.Insert(slices.Clone(m.Free), i, page)
}

func (m *model) reclaim(epoch, budget int) int {
	n := 0
	for len(m.Pending) > 0 && m.Pending[0].Epoch <= epoch && n < budget {
		m.insert(m.Pending[0].Page)
		m.Pending = m.Pending[1:]
		n++
	}
	return n
}

// R1, P8.2 to P8.4: lists that may not be too; what is asked is what the words say.
func TestAllSmall(t *testing.T) {
	small(func(s api.Space) {
		kept := copied(s)
		for page := 1; page < 6; page++ {
			m := model{s}
			if m.may(page) {
				m.insert(page)
				goesBack(t, s, page, m.Space)
			} else {
				goesNotBack(t, s, page)
			}
		}
		for epoch := -2; epoch < 4; epoch++ {
			n := len(s.Pending)
			if !(model{s}).may(4) || epoch < 0 || n > 0 && epoch < s.Pending[n-1].Epoch {
				givesNot(t, s, epoch, 4)
			} else {
				gives(t, s, epoch, 4, api.Space{High: s.High, Free: s.Free, Pending: append(slices.Clone(s.Pending), api.Freed{Epoch: epoch, Page: 4})})
			}
			for budget := 0; budget < 3; budget++ {
				m := model{s}
				n := m.reclaim(epoch, budget)
				reclaims(t, s, epoch, budget, m.Space, n)
			}
		}
		switch {
		case len(s.Free) > 0:
			takes(t, s, 4, api.Space{High: s.High, Free: s.Free[1:], Pending: s.Pending}, s.Free[0], api.OK)
		case s.High < 4:
			takes(t, s, 4, api.Space{High: s.High + 1, Pending: s.Pending}, s.High, api.OK)
		default:
			takes(t, s, 4, api.Space{}, 0, api.ErrFull)
		}
		if !same(s, kept) {
			t.Fatalf("%v was changed: %v", kept, s)
		}
	})
}

// numbers is a short rule that tells numbers: each seed its own.
func numbers(seed uint64) func(n int) int {
	return func(n int) int {
		seed = seed*6364136223846793005 + 1442695040888963407
		return int(seed>>33) % n
	}
}

// R1: hand-made lists of any order, of the greatest numbers too, handed to each function.
func TestHandMade(t *testing.T) {
	edges := []int{math.MinInt, math.MinInt + 1, -1, 0, 1, 2, 3, 4, 5, 6, top, top + 1, 1 << 32, math.MaxInt - 1, math.MaxInt}
	for seed := range uint64(3000) {
		next := numbers(seed)
		pick := func() int { return edges[next(len(edges))] }
		s := api.Space{High: pick()}
		for range next(6) {
			s.Free = append(s.Free, pick())
		}
		for range next(6) {
			s.Pending = append(s.Pending, api.Freed{Epoch: pick(), Page: pick()})
		}
		kept := copied(s)
		want := api.ErrSpace
		if mayBe(s, top) {
			want = api.OK
		}
		checks(t, s, top, want)
		space.Check(s, pick())
		m := model{s}
		epoch, budget := pick(), pick()
		n := m.reclaim(epoch, budget)
		reclaims(t, s, epoch, budget, m.Space, n)
		page := pick()
		if m = (model{s}); m.may(page) {
			m.insert(page)
			goesBack(t, s, page, m.Space)
		} else {
			goesNotBack(t, s, page)
			givesNot(t, s, math.MaxInt, page)
		}
		space.Take(s, pick())
		space.Give(s, pick(), pick())
		space.Decode(space.Encode(s))
		if !same(s, kept) {
			t.Fatalf("%v was changed: %v", kept, s)
		}
	}
	// A last Epoch below 0 does not let an epoch below 0 by.
	givesNot(t, lists(9, nil, -5, 3), -1, 4)
	gives(t, lists(9, nil, -5, 3), 0, 4, lists(9, nil, -5, 3, 0, 4))
	// The last one's Epoch counts, not the greatest one.
	gives(t, lists(9, nil, 7, 3, 2, 5), 2, 4, lists(9, nil, 7, 3, 2, 5, 2, 4))
	// The first ones go, up to the first Epoch that is above.
	reclaims(t, lists(9, nil, 1, 3, 5, 4, 1, 6), 1, 9, lists(9, []int{3}, 5, 4, 1, 6), 1)
	// Free that does not rise: ahead of the first page that is not less.
	goesBack(t, lists(9, []int{7, 2, 8, 3}), 5, lists(9, []int{5, 7, 2, 8, 3}))
	goesBack(t, lists(9, []int{3, 2}), 5, lists(9, []int{3, 2, 5}))
	reclaims(t, lists(9, []int{4, 2, 7, 3}, 1, 5, 1, 3, 1, 4), 1, 9, lists(9, []int{3, 4, 4, 2, 5, 7, 3}), 3)
	takes(t, lists(9, []int{9, 9}), 9, lists(9, []int{9}), 9, api.OK)
	takes(t, lists(-3, nil), 9, lists(-2, nil), -3, api.OK)
}

// P8.6: scripts of calls, held against the model; what is taken is not known, nor again till it is given.
func TestScripts(t *testing.T) {
	const most = 60
	for seed := range uint64(40) {
		next := numbers(seed)
		m := model{lists(api.First, nil)}
		taken := map[int]bool{}
		epoch := 0
		for range 600 {
			s := m.Space
			page := next(most + 3)
			switch op := next(10); {
			case op < 4:
				u, p, e := space.Take(s, most)
				if e == api.ErrFull {
					if len(s.Free) > 0 || s.High < most || p != 0 || !none(u) {
						t.Fatalf("Take(%v): %v, %d, ErrFull", s, u, p)
					}
					continue
				}
				if e != api.OK || taken[p] || (model{u}).known(p) {
					t.Fatalf("Take(%v): %v, %d, %d", s, u, p, e)
				}
				taken[p] = true
				m.Space = u
			case op < 7:
				u, e := space.Give(s, epoch, page)
				if (e == api.OK) != taken[page] {
					t.Fatalf("Give(%v, %d): %v, %d", s, page, u, e)
				}
				if e == api.OK {
					delete(taken, page)
					m.Pending = append(slices.Clone(m.Pending), api.Freed{Epoch: epoch, Page: page})
					told(t, "Give", u, e, m.Space, api.OK)
				}
			case op < 8:
				u, e := space.Back(s, page)
				if (e == api.OK) != taken[page] {
					t.Fatalf("Back(%v, %d): %v, %d", s, page, u, e)
				}
				if e == api.OK {
					delete(taken, page)
					m.insert(page)
					told(t, "Back", u, e, m.Space, api.OK)
				}
			case op < 9:
				epoch += next(2)
			default:
				old, budget := epoch-next(4), next(5)-1
				n := m.reclaim(old, budget)
				reclaims(t, s, old, budget, m.Space, n)
			}
			checks(t, m.Space, most, api.OK)
			decodes(t, space.Encode(m.Space), m.Space)
			if len(taken)+len(m.Free)+len(m.Pending) != m.High-api.First {
				t.Fatalf("a page is lost: %v, %v", m.Space, taken)
			}
		}
	}
}

// P8.6
func TestTaken(t *testing.T) {
	s := lists(5, []int{3}, 1, 4)
	s, a, _ := space.Take(s, 9)
	s, b, _ := space.Take(s, 9)
	s, c, e := space.Take(s, 9)
	if a != 3 || b != 5 || c != 6 || e != api.OK {
		t.Errorf("%d, %d, %d, %d", a, b, c, e)
	}
	told(t, "Take", s, e, lists(7, nil, 1, 4), api.OK)
	s, e = space.Give(s, 1, 3)
	told(t, "Give", s, e, lists(7, nil, 1, 4, 1, 3), api.OK)
	givesNot(t, s, 1, 3)
	goesNotBack(t, s, 3)
	takes(t, s, 7, api.Space{}, 0, api.ErrFull)
	s, n := space.Reclaim(s, 1, 9)
	if n != 2 {
		t.Errorf("%d", n)
	}
	takes(t, s, 7, lists(7, []int{4}), 3, api.OK)
	s, e = space.Back(s, 5)
	told(t, "Back", s, e, lists(7, []int{3, 4, 5}), api.OK)
}

// roomy is s in memory with spare room, which is filled too.
func roomy(s api.Space) api.Space {
	free, pending := slices.Clone(s.Free), slices.Clone(s.Pending)
	free = append(free, 71, 72, 73)
	pending = append(pending, api.Freed{Epoch: 74, Page: 75}, api.Freed{Epoch: 76, Page: 77})
	return api.Space{High: s.High, Free: free[:len(s.Free):len(free)], Pending: pending[:len(s.Pending):len(pending)]}
}

// spoil changes lists, and their spare room.
func spoil(s api.Space) {
	for i := range s.Free[:cap(s.Free)] {
		s.Free[:cap(s.Free)][i] = -7
	}
	for i := range s.Pending[:cap(s.Pending)] {
		s.Pending[:cap(s.Pending)][i] = api.Freed{Epoch: -8, Page: -9}
	}
}

// whole is s with its spare room.
func whole(s api.Space) api.Space {
	return api.Space{High: s.High, Free: s.Free[:cap(s.Free)], Pending: s.Pending[:cap(s.Pending)]}
}

// P8.2 to P8.4, R4: each answer's lists are memory of their own.
func TestOwnMemory(t *testing.T) {
	s := lists(9, []int{3, 6}, 1, 7, 2, 4)
	for what, call := range map[string]func(s api.Space) api.Space{
		"Take":         func(s api.Space) api.Space { u, _, _ := space.Take(s, 9); return u },
		"Take of High": func(s api.Space) api.Space { s.Free = s.Free[:0]; u, _, _ := space.Take(s, 99); return u },
		"Give":         func(s api.Space) api.Space { u, _ := space.Give(s, 2, 5); return u },
		"Back":         func(s api.Space) api.Space { u, _ := space.Back(s, 5); return u },
		"Back behind":  func(s api.Space) api.Space { u, _ := space.Back(s, 8); return u },
		"Reclaim":      func(s api.Space) api.Space { u, _ := space.Reclaim(s, 1, 9); return u },
		"none":         func(s api.Space) api.Space { u, _ := space.Reclaim(s, 0, 9); return u },
		"all":          func(s api.Space) api.Space { u, _ := space.Reclaim(s, 9, 9); return u },
		"Check":        func(s api.Space) api.Space { space.Check(s, 9); return api.Space{} },
		"Encode":       func(s api.Space) api.Space { space.Encode(s); return api.Space{} },
	} {
		in := roomy(s)
		kept := copied(whole(in))
		out := call(in)
		want := copied(out)
		if !same(whole(in), kept) {
			t.Errorf("%s: what is handed in was changed: %v", what, whole(in))
		}
		spoil(in)
		if !same(out, want) {
			t.Errorf("%s: the answer hangs on what was handed in: %v, not %v", what, out, want)
		}
		in = roomy(s)
		spoil(call(in))
		if !same(whole(in), kept) {
			t.Errorf("%s: what is handed in hangs on the answer: %v", what, whole(in))
		}
	}
}

// P8.5, R4: parts are in memory of their own, and so is what is decoded.
func TestPartsMemory(t *testing.T) {
	s := lists(5000, rows(2, 600), 1, 700, 2, 701)
	p := space.Encode(s)
	var want [][]byte
	for _, b := range p {
		want = append(want, slices.Clone(b))
	}
	// What is laid behind one part, in its spare room, is no other one's.
	for i := range p {
		b := p[i][:cap(p[i])]
		for k := range b {
			b[k] = 255
		}
		for k := range p {
			if k > i && !bytes.Equal(p[k], want[k]) {
				t.Fatalf("part %d hangs on part %d", k, i)
			}
		}
	}
	if again := space.Encode(s); !slices.EqualFunc(again, want, bytes.Equal) {
		t.Error("Encode tells what was changed behind it")
	}

	in := make([][]byte, 0, 9)
	for _, b := range want {
		in = append(in, append(slices.Clone(b), 1, 2, 3)[:len(b)])
	}
	_ = append(in, []byte{5})
	d, e := space.Decode(in)
	told(t, "Decode", d, e, s, api.OK)
	for i, b := range in {
		if !bytes.Equal(b, want[i]) || !bytes.Equal(b[:len(b)+3][len(b):], []byte{1, 2, 3}) {
			t.Errorf("part %d was changed", i)
		}
	}
	if len(in[:9][len(want)]) != 1 {
		t.Error("the parts' spare room was changed")
	}
	for _, b := range in {
		clear(b)
	}
	told(t, "Decode", d, e, s, api.OK)
	d.Free = append(d.Free, -1)
	d.Pending = append(d.Pending, api.Freed{Epoch: -1, Page: -1})
	if !slices.Equal(d.Free[:len(s.Free)], s.Free) || !slices.Equal(d.Pending[:len(s.Pending)], s.Pending) {
		t.Errorf("the lists share memory: %v", d)
	}
}

// R5: what is answered hangs on nothing else.
func TestAgain(t *testing.T) {
	s := lists(5000, rows(2, 600), 1, 701, 1, 700)
	first := space.Encode(s)
	u, n := space.Reclaim(s, 1, 2)
	for range 20 {
		if !slices.EqualFunc(space.Encode(roomy(s)), first, bytes.Equal) {
			t.Fatal("Encode")
		}
		reclaims(t, roomy(s), 1, 2, u, n)
	}
}
