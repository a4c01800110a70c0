package cell_test

import (
	"fmt"
	"math"
	"slices"
	"strings"
	"testing"

	"tailrace/api"
	"tailrace/cell"
	"tailrace/node"
)

// leaf makes a leaf of a key and a value, and so on.
func leaf(entries ...string) api.Node {
	n := api.Node{Leaf: true}
	for i, s := range entries {
		if i%2 == 0 {
			n.Keys = append(n.Keys, s)
		} else {
			n.Vals = append(n.Vals, s)
		}
	}
	return n
}

// holding makes a leaf of keys, each with a value of its own.
func holding(keys ...string) api.Node {
	n := api.Node{Leaf: true, Keys: slices.Clone(keys)}
	for i := range keys {
		n.Vals = append(n.Vals, strings.Repeat("v", i%3)+string(rune('A'+i%26)))
	}
	return n
}

// between makes an inner node of keys, with kids from 5 on.
func between(keys ...string) api.Node {
	n := api.Node{Keys: slices.Clone(keys), Kids: []int{5}}
	for i := range keys {
		n.Kids = append(n.Kids, 6+i)
	}
	return n
}

func inner(keys []string, kids ...int) api.Node { return api.Node{Keys: keys, Kids: kids} }

func list(s ...string) []string { return s }

func pages(l ...int) []int { return l }

// long is a text of n bytes that begins with one.
func long(first string, n int) string { return first + strings.Repeat("x", n-1) }

// many are n keys that rise.
func many(n int) []string {
	var l []string
	for i := range n {
		l = append(l, string([]byte{'k', byte(i >> 8), byte(i)}))
	}
	return l
}

// numbered are n pages that rise from a first one on.
func numbered(n, first int) []int {
	var l []int
	for i := range n {
		l = append(l, first+i)
	}
	return l
}

func same(a, b api.Node) bool {
	return a.Leaf == b.Leaf && slices.Equal(a.Keys, b.Keys) && slices.Equal(a.Vals, b.Vals) && slices.Equal(a.Kids, b.Kids)
}

// copied is n in memory of its own.
func copied(n api.Node) api.Node {
	n.Keys, n.Vals, n.Kids = slices.Clone(n.Keys), slices.Clone(n.Vals), slices.Clone(n.Kids)
	return n
}

// shown is the beginning of what there is to tell of n.
func shown(n api.Node) string {
	s := fmt.Sprintf("%v %v %q %q", n.Leaf, n.Kids, n.Keys, n.Vals)
	return s[:min(len(s), 300)]
}

// mayBe asks that a node that was answered is one that may be.
func mayBe(t *testing.T, n api.Node) {
	t.Helper()
	if e := node.Check(n); e != api.OK {
		t.Errorf("Check(%s): %d", shown(n), e)
	}
}

// finds asks Find and Kid for a key, counting the keys one by one.
func finds(t *testing.T, n api.Node, key string) {
	t.Helper()
	before, upTo, is := 0, 0, false
	for _, k := range n.Keys {
		switch strings.Compare(k, key) {
		case -1:
			before++
			upTo++
		case 0:
			upTo++
			is = true
		}
	}
	if i, isThere := cell.Find(n, key); i != before || isThere != is {
		t.Errorf("Find(%s, %q): %d, %v, not %d, %v", shown(n), key, i, isThere, before, is)
	}
	if i := cell.Kid(n, key); i != upTo {
		t.Errorf("Kid(%s, %q): %d, not %d", shown(n), key, i, upTo)
	}
}

// entries are a leaf's, by their keys.
func entries(n api.Node) map[string]string {
	m := map[string]string{}
	for i, k := range n.Keys {
		m[k] = n.Vals[i]
	}
	return m
}

// ofEntries is the leaf of entries.
func ofEntries(m map[string]string) api.Node {
	n := api.Node{Leaf: true}
	for k := range m {
		n.Keys = append(n.Keys, k)
	}
	slices.Sort(n.Keys)
	for _, k := range n.Keys {
		n.Vals = append(n.Vals, m[k])
	}
	return n
}

// puts asks Put of a leaf; it is the leaf then.
func puts(t *testing.T, n api.Node, key, val string) api.Node {
	t.Helper()
	m := entries(n)
	m[key] = val
	got := cell.Put(n, key, val)
	if want := ofEntries(m); !same(got, want) {
		t.Errorf("Put(%s, %q, %q): %s, not %s", shown(n), key, val, shown(got), shown(want))
	}
	// P11.7: what is laid is found, and all others with it.
	for k, v := range m {
		if i, is := cell.Find(got, k); !is || i >= len(got.Vals) || got.Vals[i] != v {
			t.Errorf("Put(%s, %q, %q): %q at %d, %v", shown(n), key, val, k, i, is)
		}
	}
	return got
}

// removes asks Remove of a leaf; it is the leaf then.
func removes(t *testing.T, n api.Node, key string) api.Node {
	t.Helper()
	m := entries(n)
	_, is := m[key]
	delete(m, key)
	got, was := cell.Remove(n, key)
	if want := ofEntries(m); !same(got, want) || was != is {
		t.Errorf("Remove(%s, %q): %s, %v, not %s, %v", shown(n), key, shown(got), was, shown(want), is)
	}
	if _, still := cell.Find(got, key); still {
		t.Errorf("Remove(%s, %q): it is there", shown(n), key)
	}
	for k, v := range m {
		if i, is := cell.Find(got, k); !is || got.Vals[i] != v {
			t.Errorf("Remove(%s, %q): %q at %d, %v", shown(n), key, k, i, is)
		}
	}
	return got
}

// sizeOf is how many bytes the first entries have, so many.
func sizeOf(n api.Node, first int) int {
	size := 0
	for i := range first {
		if n.Leaf {
			size += 2 + len(n.Keys[i]) + len(n.Vals[i])
		} else {
			size += 5 + len(n.Keys[i])
		}
	}
	return size
}

// firstPart is how many keys P11.3 leaves to the first part.
func firstPart(n api.Node) int {
	count := 1
	for sizeOf(n, count) < sizeOf(n, len(n.Keys))-sizeOf(n, count) && count < len(n.Keys)-1 {
		count++
	}
	if !n.Leaf && count > len(n.Keys)-2 {
		return len(n.Keys) - 2
	}
	return count
}

// splits asks Split of a node that has enough keys, and Join of what it was
// split into: how many keys the first part has.
func splits(t *testing.T, n api.Node) int {
	t.Helper()
	at := firstPart(n)
	l, r := api.Node{Leaf: n.Leaf, Keys: n.Keys[:at]}, api.Node{Leaf: n.Leaf}
	if n.Leaf {
		l.Vals = n.Vals[:at]
		r.Keys, r.Vals = n.Keys[at:], n.Vals[at:]
	} else {
		l.Kids = n.Kids[:at+1]
		r.Keys, r.Kids = n.Keys[at+1:], n.Kids[at+1:]
	}
	gotL, key, gotR, e := cell.Split(n)
	if !same(gotL, l) || key != n.Keys[at] || !same(gotR, r) || e != api.OK {
		t.Errorf("Split(%s): %s; %q; %s; %d, not %s; %q; %s", shown(n), shown(gotL), key, shown(gotR), e, shown(l), n.Keys[at], shown(r))
	}
	mayBe(t, gotL)
	mayBe(t, gotR)
	if n := copied(n); !same(cell.Join(gotL, key, gotR), n) {
		t.Errorf("Split(%s), Join: %s", shown(n), shown(cell.Join(gotL, key, gotR)))
	}
	return len(gotL.Keys)
}

func splitsNot(t *testing.T, n api.Node) {
	t.Helper()
	l, key, r, e := cell.Split(n)
	if !same(l, api.Node{}) || key != "" || !same(r, api.Node{}) || e != api.ErrNode {
		t.Errorf("Split(%s): %s; %q; %s; %d", shown(n), shown(l), key, shown(r), e)
	}
}

func joins(t *testing.T, l api.Node, key string, r, want api.Node) {
	t.Helper()
	if n := cell.Join(l, key, r); !same(n, want) {
		t.Errorf("Join(%s; %q; %s): %s, not %s", shown(l), key, shown(r), shown(n), shown(want))
	}
}

func replaces(t *testing.T, n api.Node, from, to int, kids []int, keys []string, want api.Node) {
	t.Helper()
	if got := cell.Replace(n, from, to, kids, keys); !same(got, want) {
		t.Errorf("Replace(%s, %d, %d, %v, %q): %s, not %s", shown(n), from, to, kids, keys, shown(got), shown(want))
	}
}

// stays is of what Replace does not do.
func stays(t *testing.T, n api.Node, from, to int, kids []int, keys []string) {
	t.Helper()
	replaces(t, n, from, to, kids, keys, copied(n))
}

// The chapter's examples.
func TestExamples(t *testing.T) {
	if i, is := cell.Find(leaf("a", "", "c", ""), "b"); i != 1 || is {
		t.Errorf("Find: %d, %v", i, is)
	}
	if i := cell.Kid(inner(list("b"), 5, 6), "b"); i != 1 {
		t.Errorf("Kid: %d", i)
	}
	l, key, r, e := cell.Split(leaf("a", "", "b", ""))
	if !same(l, leaf("a", "")) || key != "b" || !same(r, leaf("b", "")) || e != api.OK {
		t.Errorf("Split: %v; %q; %v; %d", l, key, r, e)
	}
	replaces(t, inner(list("b"), 5, 6), 0, 1, pages(7, 8), list("a"), inner(list("a", "b"), 7, 8, 6))
}

// P11.1: where keys stand, counted by hand.
func TestFindsByHand(t *testing.T) {
	keys := list("b", "d", "da", "f", "\x80", "\xff")
	for _, c := range []struct {
		key  string
		find int
		is   bool
		kid  int
	}{
		{"", 0, false, 0},
		{"\x00", 0, false, 0},
		{"a", 0, false, 0},
		{"b", 0, true, 1},
		{"b\x00", 1, false, 1},
		{"ba", 1, false, 1},
		{"c", 1, false, 1},
		{"d", 1, true, 2},
		{"d\x00", 2, false, 2},
		{"da", 2, true, 3},
		{"da\x00", 3, false, 3},
		{"e", 3, false, 3},
		{"f", 3, true, 4},
		{"\x7f", 4, false, 4},
		{"\x80", 4, true, 5},
		{"\xc3\xa9", 5, false, 5},
		{"\xfe\xff", 5, false, 5},
		{"\xff", 5, true, 6},
		{"\xff\x00", 6, false, 6},
		{"\xff\xff", 6, false, 6},
	} {
		for _, n := range []api.Node{holding(keys...), between(keys...)} {
			if i, is := cell.Find(n, c.key); i != c.find || is != c.is {
				t.Errorf("Find(%s, %q): %d, %v", shown(n), c.key, i, is)
			}
			if i := cell.Kid(n, c.key); i != c.kid {
				t.Errorf("Kid(%s, %q): %d", shown(n), c.key, i)
			}
		}
	}
}

// P11.1: all nodes of some keys, and all of these keys, and others.
func TestFinds(t *testing.T) {
	all := list("\x00", "a", "a\x00", "aa", "ab", "b", "\x7f", "\x80", "\xff", "\xff\xff")
	asked := append(list("", "a\x00\x00", "ac", "B", "\x81", "\xfe", "\xff\xff\xff", long("a", 1000)), all...)
	for which := range 1 << len(all) {
		var keys []string
		for i, k := range all {
			if which&(1<<i) != 0 {
				keys = append(keys, k)
			}
		}
		for _, key := range asked {
			finds(t, holding(keys...), key)
			finds(t, between(keys...), key)
		}
	}
	keys := many(300)
	for _, n := range []api.Node{holding(keys...), between(keys...)} {
		for _, k := range keys {
			finds(t, n, k)
			finds(t, n, k+"\x00")
			finds(t, n, k[:2])
		}
		finds(t, n, "")
		finds(t, n, "a")
		finds(t, n, "l")
	}
}

// P11.2: a leaf with an entry more, or with another value.
func TestPut(t *testing.T) {
	three := leaf("b", "1", "d", "2", "f", "3")
	for _, c := range []struct {
		n        api.Node
		key, val string
		want     api.Node
	}{
		{leaf(), "a", "1", leaf("a", "1")},
		{leaf(), "a", "", leaf("a", "")},
		{three, "a", "0", leaf("a", "0", "b", "1", "d", "2", "f", "3")},
		{three, "c", "0", leaf("b", "1", "c", "0", "d", "2", "f", "3")},
		{three, "e", "", leaf("b", "1", "d", "2", "e", "", "f", "3")},
		{three, "g", "0", leaf("b", "1", "d", "2", "f", "3", "g", "0")},
		{three, "b", "1", three},
		{three, "b", "9", leaf("b", "9", "d", "2", "f", "3")},
		{three, "b", "", leaf("b", "", "d", "2", "f", "3")},
		{three, "d", "2", three},
		{three, "d", "9", leaf("b", "1", "d", "9", "f", "3")},
		{three, "d", "", leaf("b", "1", "d", "", "f", "3")},
		{three, "f", "3", three},
		{three, "f", "9", leaf("b", "1", "d", "2", "f", "9")},
		{three, "f", "", leaf("b", "1", "d", "2", "f", "")},
		{leaf("a", "1"), "a", "2", leaf("a", "2")},
		{leaf("a", "1"), "\x80", "\xff\x00", leaf("a", "1", "\x80", "\xff\x00")},
		{leaf("aa", "1"), "a", "2", leaf("a", "2", "aa", "1")},
		{leaf("a", "1"), "aa", "2", leaf("a", "1", "aa", "2")},
	} {
		if got := cell.Put(c.n, c.key, c.val); !same(got, c.want) {
			t.Errorf("Put(%s, %q, %q): %s", shown(c.n), c.key, c.val, shown(got))
		}
		puts(t, c.n, c.key, c.val)
	}
	keys := many(200)
	n := holding(keys...)
	for _, k := range keys {
		puts(t, n, k, "new")
		puts(t, n, k, "")
		mayBe(t, puts(t, n, k+"\x00", "more"))
	}
	mayBe(t, puts(t, n, long("z", api.MaxKey), long("w", api.MaxVal)))
	// A leaf that has no room any more is one still.
	if n := puts(t, n, "a", "1"); cell.Fits(n) {
		t.Errorf("%d bytes fit", node.Size(n))
	}
}

// P11.2: a leaf without an entry.
func TestRemove(t *testing.T) {
	three := leaf("b", "1", "d", "2", "f", "3")
	for _, c := range []struct {
		n    api.Node
		key  string
		want api.Node
		is   bool
	}{
		{three, "b", leaf("d", "2", "f", "3"), true},
		{three, "d", leaf("b", "1", "f", "3"), true},
		{three, "f", leaf("b", "1", "d", "2"), true},
		{three, "a", three, false},
		{three, "c", three, false},
		{three, "e", three, false},
		{three, "g", three, false},
		{three, "", three, false},
		{three, "d\x00", three, false},
		{leaf("dd", "2"), "d", leaf("dd", "2"), false},
		{leaf("a", "1"), "a", leaf(), true},
		{leaf("a", "1"), "b", leaf("a", "1"), false},
		{leaf(), "a", leaf(), false},
		{leaf(), "", leaf(), false},
		{leaf("a", "", "\xff", ""), "\xff", leaf("a", ""), true},
	} {
		if got, is := cell.Remove(c.n, c.key); !same(got, c.want) || is != c.is {
			t.Errorf("Remove(%s, %q): %s, %v", shown(c.n), c.key, shown(got), is)
		}
		removes(t, c.n, c.key)
	}
	keys := many(200)
	n := holding(keys...)
	for _, k := range keys {
		mayBe(t, removes(t, n, k))
		removes(t, n, k+"\x00")
	}
}

// P11.2: an inner node has no entries of values: it stays, though the key is
// one of its own.
func TestNoLeaf(t *testing.T) {
	for _, n := range []api.Node{inner(list("b"), 5, 6), between("b", "d", "f")} {
		for _, key := range list("a", "b", "c", "d", "g") {
			if got := cell.Put(n, key, "1"); !same(got, n) {
				t.Errorf("Put(%s, %q): %s", shown(n), key, shown(got))
			}
			if got, is := cell.Remove(n, key); !same(got, n) || is {
				t.Errorf("Remove(%s, %q): %s, %v", shown(n), key, shown(got), is)
			}
		}
	}
}

// P11.2, P11.7: all short scripts, on a leaf of some keys.
func TestShortScripts(t *testing.T) {
	keys := list("a", "aa", "b", "\xff")
	var each func(n api.Node, left int)
	each = func(n api.Node, left int) {
		if left == 0 {
			return
		}
		for _, k := range keys {
			each(removes(t, n, k), left-1)
			for _, v := range list("", "1") {
				each(puts(t, n, k, v), left-1)
			}
		}
	}
	each(leaf(), 4)
}

// P11.3: too few keys.
func TestSplitsNot(t *testing.T) {
	splitsNot(t, leaf())
	splitsNot(t, leaf("a", "1"))
	splitsNot(t, leaf(long("a", api.MaxKey), long("v", api.MaxVal)))
	splitsNot(t, inner(list("b"), 5, 6))
	splitsNot(t, inner(list("b", "d"), 5, 6, 7))
	splitsNot(t, inner(list(long("b", api.MaxKey), long("d", api.MaxKey)), 5, 6, 7))
	// Of nodes that may not be too there are no parts without keys.
	splitsNot(t, api.Node{})
	splitsNot(t, inner(nil, 5))
}

// lengths makes nodes whose entries have these bytes: leaves, of keys and of
// values alone as far as may be, and, where may be, an inner node.
func lengths(of ...int) []api.Node {
	keyed, valued, in := leaf(), leaf(), inner(nil, 1000)
	isInner := true
	for i, size := range of {
		first := string(rune('a' + i))
		keyed.Keys = append(keyed.Keys, long(first, min(size-2, api.MaxKey)))
		keyed.Vals = append(keyed.Vals, strings.Repeat("v", max(size-2-api.MaxKey, 0)))
		valued.Vals = append(valued.Vals, strings.Repeat("v", min(size-3, api.MaxVal)))
		valued.Keys = append(valued.Keys, long(first, size-2-min(size-3, api.MaxVal)))
		if size < 6 || size > 5+api.MaxKey {
			isInner = false
			continue
		}
		in.Keys = append(in.Keys, long(first, size-5))
		in.Kids = append(in.Kids, 1001+i)
	}
	if isInner && len(of) > 2 {
		return []api.Node{keyed, valued, in}
	}
	return []api.Node{keyed, valued}
}

// P11.3: where a node is split, by the bytes of its entries.
func TestSplit(t *testing.T) {
	for _, c := range []struct {
		leaf, inner int
		of          []int
	}{
		{1, 0, []int{3, 3}},
		{1, 0, []int{3, 222}},
		{1, 0, []int{222, 3}},
		{2, 1, []int{6, 6, 6}},
		{2, 2, []int{6, 6, 6, 6}},
		{3, 3, []int{6, 6, 6, 6, 6}},
		// The first two have just half of all, a byte less, and one more.
		{2, 2, []int{10, 20, 16, 14}},
		{3, 2, []int{10, 19, 16, 14}},
		{3, 2, []int{10, 20, 17, 14}},
		{3, 2, []int{10, 20, 16, 15}},
		{2, 2, []int{10, 21, 16, 14}},
		{2, 2, []int{10, 20, 15, 14}},
		{2, 2, []int{10, 20, 7, 9, 14}},
		{3, 3, []int{10, 20, 8, 9, 14}},
		{2, 2, []int{10, 21, 7, 9, 14}},
		{2, 2, []int{10, 20, 7, 8, 14}},
		// So has the first one.
		{1, 1, []int{30, 16, 14}},
		{2, 1, []int{29, 16, 14}},
		{2, 1, []int{30, 16, 15}},
		{1, 1, []int{31, 16, 14}},
		{1, 1, []int{30, 15, 14}},
		// The first entry, and the last one, is greater than all others.
		{1, 1, []int{100, 10, 10}},
		{1, 1, []int{100, 10, 10, 10, 10}},
		{2, 1, []int{10, 10, 100}},
		{3, 2, []int{10, 10, 10, 100}},
		{4, 3, []int{10, 10, 10, 10, 100}},
		{1, 0, []int{200, 10, 10, 10, 10}},
		{4, 0, []int{10, 10, 10, 10, 200}},
		{4, 3, []int{10, 10, 10, 10, 40}},
		{4, 3, []int{10, 10, 10, 10, 41}},
		{4, 3, []int{10, 10, 10, 11, 40}},
		// One between is: it is the first part's last one.
		{3, 2, []int{10, 10, 100, 10}},
		{2, 2, []int{10, 100, 10, 10}},
		{4, 3, []int{10, 10, 10, 100, 10}},
		{3, 3, []int{10, 10, 100, 10, 10}},
		{3, 3, []int{6, 6, 21, 6, 6, 6, 6}},
	} {
		for _, n := range lengths(c.of...) {
			mayBe(t, n)
			want := c.leaf
			if !n.Leaf {
				want = c.inner
			}
			if at := splits(t, n); at != want {
				t.Errorf("Split(%s), of %v: %d, not %d", shown(n), c.of, at, want)
			}
		}
	}
	// Entries of the same bytes: of an odd number the one in the midst is the
	// first part's, of three of an inner node the one that is between.
	for _, count := range []int{2, 3, 4, 5, 50, 51, 300, 301} {
		n := leaf()
		n.Keys, n.Vals = many(count), make([]string, count)
		if at := splits(t, n); at != (count+1)/2 {
			t.Errorf("Split of a leaf of %d keys: %d", count, at)
		}
	}
	for _, count := range []int{4, 5, 50, 51, 300, 301} {
		if at := splits(t, between(many(count)...)); at != (count+1)/2 {
			t.Errorf("Split of an inner node of %d keys: %d", count, at)
		}
	}
	if at := splits(t, between(many(3)...)); at != 1 {
		t.Errorf("Split of an inner node of 3 keys: %d", at)
	}
}

// P11.3: an entry has 2, or 5, bytes beside its texts': were it one fewer, or
// one more, another entry would be the first part's last one.
func TestSplitCountsAll(t *testing.T) {
	for _, c := range []struct {
		isLeaf bool
		of     []int
		want   int
	}{
		{true, []int{3, 3, 3, 4, 5}, 3},              // 9 of 18; of 2 2 2 3 4 they were 6 of 13
		{true, []int{3, 3, 3, 5, 5}, 4},              // 9 of 19; of 4 4 4 6 6 they were 12 of 24
		{false, []int{6, 6, 6, 6, 6, 10, 10, 10}, 5}, // 30 of 60; of 5 5 5 5 5 9 9 9 they were 25 of 52
		{false, []int{6, 6, 6, 6, 6, 10, 10, 11}, 6}, // 30 of 61; of 7 7 7 7 7 11 11 12 they were 35 of 69
	} {
		for _, n := range lengths(c.of...) {
			if n.Leaf == c.isLeaf {
				if at := splits(t, n); at != c.want {
					t.Errorf("Split(%s): %d", shown(n), at)
				}
			}
		}
	}
}

// P11.3, P11.7: nodes of all entries' lengths about an edge.
func TestSplitAll(t *testing.T) {
	sizes := []int{6, 7, 12, 13, 18}
	var each func(of []int, left int)
	each = func(of []int, left int) {
		if len(of) > 1 {
			for _, n := range lengths(of...) {
				splits(t, n)
			}
		}
		if left == 0 {
			return
		}
		for _, size := range sizes {
			each(append(slices.Clone(of), size), left-1)
		}
	}
	each(nil, 5)
}

// P11.4
func TestJoin(t *testing.T) {
	joins(t, leaf("a", "1", "b", "2"), "c", leaf("c", "3", "d", ""), leaf("a", "1", "b", "2", "c", "3", "d", ""))
	joins(t, leaf("a", "1"), "b", leaf("c", "3"), leaf("a", "1", "c", "3"))
	joins(t, leaf("a", "1"), "", leaf("c", "3"), leaf("a", "1", "c", "3"))
	joins(t, leaf(), "b", leaf("c", "3"), leaf("c", "3"))
	joins(t, leaf("a", "1"), "b", leaf(), leaf("a", "1"))
	joins(t, leaf(), "b", leaf(), leaf())
	joins(t, inner(list("b"), 5, 6), "d", inner(list("f"), 7, 8), inner(list("b", "d", "f"), 5, 6, 7, 8))
	joins(t, inner(list("b", "c"), 9, 3, 3), "d", inner(list("f"), 3, 2), inner(list("b", "c", "d", "f"), 9, 3, 3, 3, 2))
	joins(t, inner(list("b"), 5, 6), "\x80", inner(list("\x81", "\xff"), 7, 8, 9), inner(list("b", "\x80", "\x81", "\xff"), 5, 6, 7, 8, 9))
	keys := many(100)
	whole := between(keys...)
	for at := 1; at < 99; at++ {
		l := inner(slices.Clone(keys[:at]), slices.Clone(whole.Kids[:at+1])...)
		r := inner(slices.Clone(keys[at+1:]), slices.Clone(whole.Kids[at+1:])...)
		joins(t, l, keys[at], r, whole)
	}
	full := holding(keys...)
	for at := range 101 {
		l := api.Node{Leaf: true, Keys: full.Keys[:at], Vals: full.Vals[:at]}
		r := api.Node{Leaf: true, Keys: full.Keys[at:], Vals: full.Vals[at:]}
		joins(t, l, "any", r, full)
	}
}

// P11.5: kids in the place of others, told by hand.
func TestReplace(t *testing.T) {
	one := inner(list("b"), 5, 6)
	n := inner(list("b", "d", "f"), 5, 6, 7, 8)
	for _, c := range []struct {
		n        api.Node
		from, to int
		kids     []int
		keys     []string
		want     api.Node
	}{
		// The first, one between, the last one: by one, by more.
		{n, 0, 1, pages(9), nil, inner(list("b", "d", "f"), 9, 6, 7, 8)},
		{n, 0, 1, pages(9, 3), list("a"), inner(list("a", "b", "d", "f"), 9, 3, 6, 7, 8)},
		{n, 0, 1, pages(9, 3, 4), list("a", "aa"), inner(list("a", "aa", "b", "d", "f"), 9, 3, 4, 6, 7, 8)},
		{n, 1, 2, pages(9), nil, inner(list("b", "d", "f"), 5, 9, 7, 8)},
		{n, 1, 2, pages(9, 3), list("c"), inner(list("b", "c", "d", "f"), 5, 9, 3, 7, 8)},
		{n, 2, 3, pages(9, 3), list("e"), inner(list("b", "d", "e", "f"), 5, 6, 9, 3, 8)},
		{n, 3, 4, pages(9), nil, inner(list("b", "d", "f"), 5, 6, 7, 9)},
		{n, 3, 4, pages(9, 3), list("g"), inner(list("b", "d", "f", "g"), 5, 6, 7, 9, 3)},
		{n, 3, 4, pages(9, 3, 4), list("g", "h"), inner(list("b", "d", "f", "g", "h"), 5, 6, 7, 9, 3, 4)},
		// Several: by fewer, as many, and more.
		{n, 0, 2, pages(9), nil, inner(list("d", "f"), 9, 7, 8)},
		{n, 0, 2, pages(9, 3), list("c"), inner(list("c", "d", "f"), 9, 3, 7, 8)},
		{n, 0, 2, pages(9, 3, 4), list("a", "c"), inner(list("a", "c", "d", "f"), 9, 3, 4, 7, 8)},
		{n, 0, 3, pages(9), nil, inner(list("f"), 9, 8)},
		{n, 0, 3, pages(9, 3), list("e"), inner(list("e", "f"), 9, 3, 8)},
		{n, 1, 3, pages(9), nil, inner(list("b", "f"), 5, 9, 8)},
		{n, 1, 3, pages(9, 3), list("e"), inner(list("b", "e", "f"), 5, 9, 3, 8)},
		{n, 1, 3, pages(9, 3, 4), list("c", "e"), inner(list("b", "c", "e", "f"), 5, 9, 3, 4, 8)},
		{n, 2, 4, pages(9), nil, inner(list("b", "d"), 5, 6, 9)},
		{n, 2, 4, pages(9, 3), list("g"), inner(list("b", "d", "g"), 5, 6, 9, 3)},
		{n, 2, 4, pages(9, 3, 4), list("e", "g"), inner(list("b", "d", "e", "g"), 5, 6, 9, 3, 4)},
		{n, 1, 4, pages(9), nil, inner(list("b"), 5, 9)},
		{n, 1, 4, pages(9, 3), list("e"), inner(list("b", "e"), 5, 9, 3)},
		// All: by more, as many, fewer, down to one.
		{n, 0, 4, pages(9, 3, 4, 2, 5), list("a", "c", "e", "g"), inner(list("a", "c", "e", "g"), 9, 3, 4, 2, 5)},
		{n, 0, 4, pages(9, 3, 4, 2), list("a", "c", "e"), inner(list("a", "c", "e"), 9, 3, 4, 2)},
		{n, 0, 4, pages(9, 3), list("a"), inner(list("a"), 9, 3)},
		{n, 0, 4, pages(9), nil, inner(nil, 9)},
		{n, 0, 4, pages(9), []string{}, inner(nil, 9)},
		{one, 0, 1, pages(7), nil, inner(list("b"), 7, 6)},
		{one, 1, 2, pages(7), nil, inner(list("b"), 5, 7)},
		{one, 1, 2, pages(7, 8), list("c"), inner(list("b", "c"), 5, 7, 8)},
		{one, 0, 2, pages(7), nil, inner(nil, 7)},
		{one, 0, 2, pages(7, 8), list("a"), inner(list("a"), 7, 8)},
		{one, 0, 2, pages(5, 6), list("b"), one},
	} {
		replaces(t, c.n, c.from, c.to, c.kids, c.keys, c.want)
	}
}

// P11.5: where a node stays.
func TestReplaceStays(t *testing.T) {
	n := inner(list("b", "d", "f"), 5, 6, 7, 8)
	edges := []int{math.MinInt, math.MinInt + 1, -2, -1, 0, 1, 2, 3, 4, 5, 6, 1 << 32, math.MaxInt - 1, math.MaxInt}
	for _, from := range edges {
		for _, to := range edges {
			is := from == 0 && to > 0 && to < 5 || from == 1 && to > 1 && to < 5 || from == 2 && to > 2 && to < 5 || from == 3 && to == 4
			if is {
				// A key too many, too few, and no kids.
				stays(t, n, from, to, pages(9), list("c"))
				stays(t, n, from, to, pages(9, 3), nil)
				stays(t, n, from, to, pages(9, 3), list("c", "e"))
				stays(t, n, from, to, pages(9, 3, 4), list("c"))
				stays(t, n, from, to, pages(9, 3, 4), nil)
				stays(t, n, from, to, pages(9, 3, 4), list("a", "c", "e"))
				stays(t, n, from, to, nil, nil)
				stays(t, n, from, to, []int{}, []string{})
				stays(t, n, from, to, nil, list("c"))
				continue
			}
			stays(t, n, from, to, pages(9), nil)
			stays(t, n, from, to, pages(9, 3), list("c"))
			stays(t, n, from, to, nil, nil)
			stays(t, n, from, to, nil, list("c"))
		}
	}
	for _, l := range []api.Node{leaf(), leaf("a", "1"), holding(many(20)...)} {
		for from := -1; from < 4; from++ {
			for to := -1; to < 4; to++ {
				stays(t, l, from, to, pages(9), nil)
				stays(t, l, from, to, pages(9, 3), list("c"))
			}
		}
	}
}

// P11.5: all places of nodes of some keys, by any number of kids, held against
// the kids and keys in their turns.
func TestReplaceAll(t *testing.T) {
	for count := 1; count < 8; count++ {
		n := between(many(count)...)
		for from := range count + 1 {
			for to := from + 1; to <= count+1; to++ {
				for by := 1; by < 5; by++ {
					kids, keys := numbered(by, 90), list("new", "newer", "newest")[:by-1]
					want := api.Node{Keys: slices.Clone(n.Keys[:from])}
					for i, k := range n.Kids {
						switch {
						case i == from:
							want.Kids = append(want.Kids, kids...)
						case i < from || i >= to:
							want.Kids = append(want.Kids, k)
						}
					}
					want.Keys = append(want.Keys, keys...)
					want.Keys = append(want.Keys, n.Keys[to-1:]...)
					replaces(t, n, from, to, kids, keys, want)
				}
			}
		}
	}
}

// P11.6
func TestFitsAndLow(t *testing.T) {
	filled := func(size int) []api.Node {
		l, n := leaf(), inner(nil, 2)
		for i := 0; node.Size(l)+100 < size; i++ {
			l = cell.Put(l, long(string(rune('a'+i)), 40), strings.Repeat("v", 38))
		}
		left := size - node.Size(l) - 2
		l = cell.Put(l, long("z", left/2), strings.Repeat("v", left-left/2))
		for i := 0; node.Size(n)+100 < size; i++ {
			n.Keys, n.Kids = append(n.Keys, long(string(rune('a'+i)), 75)), append(n.Kids, 3+i)
		}
		n.Keys, n.Kids = append(n.Keys, long("z", size-node.Size(n)-5)), append(n.Kids, 99)
		return []api.Node{l, n}
	}
	for size := 100; size < 1200; size++ {
		for _, n := range filled(size) {
			mayBe(t, n)
			if node.Size(n) != size {
				t.Fatalf("%s has %d bytes, not %d", shown(n), node.Size(n), size)
			}
			if fits := cell.Fits(n); fits != (size <= 1000) {
				t.Errorf("Fits of %d bytes (%v): %v", size, n.Leaf, fits)
			}
			if low := cell.Low(n); low != (size < 300) {
				t.Errorf("Low of %d bytes (%v): %v", size, n.Leaf, low)
			}
		}
	}
	for _, n := range []api.Node{leaf(), leaf("a", "1"), inner(list("b"), 5, 6), {}} {
		if !cell.Fits(n) || !cell.Low(n) {
			t.Errorf("%s: %v, %v", shown(n), cell.Fits(n), cell.Low(n))
		}
	}
	for _, n := range []api.Node{holding(many(5000)...), between(many(5000)...)} {
		if cell.Fits(n) || cell.Low(n) {
			t.Errorf("%s: %v, %v", shown(n), cell.Fits(n), cell.Low(n))
		}
	}
}

// numbersFrom makes numbers from a seed, always the same ones.
func numbersFrom(seed uint64) func(below int) int {
	return func(below int) int {
		seed = seed*6364136223846793005 + 1442695040888963407
		return int(seed>>33) % below
	}
}

// P11.7: long scripts of entries that are laid and taken out, on leaves that
// are split where they don't fit, and joined where they are low.
func TestLongScripts(t *testing.T) {
	for seed := range uint64(20) {
		next := numbersFrom(seed)
		n, splitOnes := leaf(), 0
		for range 300 {
			key := string(rune('a'+next(26))) + strings.Repeat(string([]byte{byte(next(256))}), next(40))
			if next(3) == 0 {
				n = removes(t, n, key)
			} else {
				n = puts(t, n, key, strings.Repeat("v", next(api.MaxVal+1)))
			}
			mayBe(t, n)
			if len(n.Keys) > 1 {
				splits(t, n)
			}
			if cell.Fits(n) {
				continue
			}
			l, key, r, _ := cell.Split(n)
			splitOnes++
			// No entry here has 150 bytes, so the parts are not far from half.
			if cell.Low(l) || cell.Low(r) || !cell.Fits(l) || !cell.Fits(r) {
				t.Fatalf("%d bytes are split into %d and %d", node.Size(n), node.Size(l), node.Size(r))
			}
			if next(2) == 0 {
				joins(t, l, key, r, n)
			}
			n = []api.Node{l, r}[next(2)]
		}
		if splitOnes == 0 {
			t.Errorf("seed %d: none was split", seed)
		}
	}
}

// P11.3, P11.5, P11.7: long scripts of inner nodes, whose kids are replaced by
// what they were split into, and back.
func TestLongScriptsOfInnerNodes(t *testing.T) {
	for seed := range uint64(20) {
		next := numbersFrom(seed)
		n, page := inner(list("m"), 2, 3), 4
		was := []api.Node{}
		for range 200 {
			at := next(len(n.Kids))
			// A kid of two, with a key between them that is no key yet.
			low, high := "", "\xff"
			if at > 0 {
				low = n.Keys[at-1]
			}
			if at < len(n.Keys) {
				high = n.Keys[at]
			}
			key := low + string([]byte{byte(1 + next(100))})
			if key >= high || len(key) > api.MaxKey {
				continue
			}
			more := cell.Replace(n, at, at+1, pages(page, page+1), list(key))
			page += 2
			mayBe(t, more)
			if at != cell.Kid(more, low) || at+1 != cell.Kid(more, key) {
				t.Fatalf("%q and %q lead to %d and %d of %s, not from %d on", low, key, cell.Kid(more, low), cell.Kid(more, key), shown(more), at)
			}
			replaces(t, more, at, at+2, pages(n.Kids[at]), nil, n)
			was = append(was, copied(n))
			n = more
			if len(n.Keys) > 2 {
				splits(t, n)
			}
			if !cell.Fits(n) {
				l, _, r, _ := cell.Split(n)
				n = []api.Node{l, r}[next(2)]
			}
		}
		if len(was) < 50 {
			t.Errorf("seed %d: only %d nodes", seed, len(was))
		}
	}
}

// roomy is a list with spare room that is filled.
func roomy[E any](l []E, spare E) []E {
	r := append(slices.Clone(l), spare, spare, spare)
	return r[:len(l)]
}

func roomyNode(n api.Node) api.Node {
	return api.Node{Leaf: n.Leaf, Keys: roomy(n.Keys, "spare"), Vals: roomy(n.Vals, "spare"), Kids: roomy(n.Kids, -9)}
}

func isAsGiven[E comparable](given, want []E, spare E) bool {
	return slices.Equal(given[:len(given)+3], append(slices.Clone(want), spare, spare, spare))
}

// spoil changes all of a list, its spare room included.
func spoil[E any](l []E, with E) {
	l = l[:cap(l)]
	for i := range l {
		l[i] = with
	}
}

// lists are some lists to be held against others: of texts, and of numbers.
type lists struct {
	texts   [][]string
	numbers [][]int
}

func (l *lists) add(n api.Node) {
	l.texts = append(l.texts, n.Keys, n.Vals)
	l.numbers = append(l.numbers, n.Kids)
}

// apart spoils each of the lists, and asks that the others are as they were.
func apart(t *testing.T, what string, l lists) {
	t.Helper()
	for i, s := range l.texts {
		want := whole(l.texts)
		spoil(s, "spoilt")
		for j, other := range l.texts {
			if j != i && !slices.Equal(other[:cap(other)], want[j]) {
				t.Errorf("%s: the lists of texts %d and %d share memory", what, i, j)
			}
		}
	}
	for i, s := range l.numbers {
		want := whole(l.numbers)
		spoil(s, -7)
		for j, other := range l.numbers {
			if j != i && !slices.Equal(other[:cap(other)], want[j]) {
				t.Errorf("%s: the lists of numbers %d and %d share memory", what, i, j)
			}
		}
	}
}

// whole are lists as they stand, with their spare room, in memory of their own.
func whole[E any](l [][]E) [][]E {
	var all [][]E
	for _, s := range l {
		all = append(all, slices.Clone(s[:cap(s)]))
	}
	return all
}

// calls are all calls that answer nodes, on nodes and lists that are handed in.
func calls() map[string]func(n, r api.Node, kids []int, keys []string) []api.Node {
	one := func(n api.Node) []api.Node { return []api.Node{n} }
	return map[string]func(n, r api.Node, kids []int, keys []string) []api.Node{
		"Put ahead":  func(n, _ api.Node, _ []int, _ []string) []api.Node { return one(cell.Put(n, "A", "0")) },
		"Put":        func(n, _ api.Node, _ []int, _ []string) []api.Node { return one(cell.Put(n, "bb", "0")) },
		"Put over":   func(n, _ api.Node, _ []int, _ []string) []api.Node { return one(cell.Put(n, "b", "0")) },
		"Put as is":  func(n, _ api.Node, _ []int, _ []string) []api.Node { return one(cell.Put(n, "b", "vB")) },
		"Put behind": func(n, _ api.Node, _ []int, _ []string) []api.Node { return one(cell.Put(n, "k", "0")) },
		"Remove first": func(n, _ api.Node, _ []int, _ []string) []api.Node {
			m, _ := cell.Remove(n, "a")
			return one(m)
		},
		"Remove": func(n, _ api.Node, _ []int, _ []string) []api.Node {
			m, _ := cell.Remove(n, "b")
			return one(m)
		},
		"Remove last": func(n, _ api.Node, _ []int, _ []string) []api.Node {
			m, _ := cell.Remove(n, "d")
			return one(m)
		},
		"Remove none": func(n, _ api.Node, _ []int, _ []string) []api.Node {
			m, _ := cell.Remove(n, "x")
			return one(m)
		},
		"Split": func(n, _ api.Node, _ []int, _ []string) []api.Node {
			l, _, r, _ := cell.Split(n)
			return []api.Node{l, r}
		},
		"Join":        func(n, r api.Node, _ []int, _ []string) []api.Node { return one(cell.Join(n, "m", r)) },
		"Join itself": func(n, _ api.Node, _ []int, _ []string) []api.Node { return one(cell.Join(n, "m", n)) },
		"Join none":   func(n, _ api.Node, _ []int, _ []string) []api.Node { return one(cell.Join(n, "m", leaf())) },
		"Join to none": func(n, r api.Node, _ []int, _ []string) []api.Node {
			return one(cell.Join(leaf(), "m", r))
		},
		"Replace": func(n, _ api.Node, kids []int, keys []string) []api.Node {
			return one(cell.Replace(n, 1, 3, kids, keys))
		},
		"Replace first": func(n, _ api.Node, kids []int, keys []string) []api.Node {
			return one(cell.Replace(n, 0, 1, kids, keys))
		},
		"Replace last": func(n, _ api.Node, kids []int, keys []string) []api.Node {
			return one(cell.Replace(n, len(n.Kids)-1, len(n.Kids), kids, keys))
		},
		"Replace all": func(n, _ api.Node, kids []int, keys []string) []api.Node {
			return one(cell.Replace(n, 0, len(n.Kids), kids, keys))
		},
		"Replace none": func(n, _ api.Node, kids []int, keys []string) []api.Node {
			return one(cell.Replace(n, 3, 3, kids, keys))
		},
		"no node": func(n, _ api.Node, _ []int, _ []string) []api.Node {
			cell.Find(n, "b")
			cell.Find(n, "x")
			cell.Kid(n, "b")
			cell.Fits(n)
			cell.Low(n)
			return nil
		},
	}
}

// handed are pairs of nodes to be handed in; those that may not be too.
func handed() [][2]api.Node {
	return [][2]api.Node{
		{holding("a", "b", "c", "d"), holding("p", "q")},
		{between("a", "b", "c", "d"), between("p", "q", "r")},
		{leaf(), leaf()},
		{leaf("b", "vB"), holding("p", "q")},
		{holding("a", "b", "c", "d"), between("p", "q", "r")},
		{between("a", "b", "c", "d"), holding("p", "q")},
		{{Leaf: true, Keys: list("a", "b", "c", "d"), Vals: list("1"), Kids: pages(5, 6, 7)}, {Keys: list("p", "q"), Vals: list("1", "2", "3")}},
		{{Keys: list("d", "b", "b", "a"), Vals: list("1"), Kids: pages(5, 6, 7)}, {Leaf: true, Keys: list("p", "a"), Kids: pages(5)}},
	}
}

// R4: what is handed in is not changed, its spare room included; and what is
// answered shares memory neither with that nor with another one of its lists.
func TestMemory(t *testing.T) {
	for name, call := range calls() {
		for _, pair := range handed() {
			what := name + " of " + shown(pair[0])
			n, r, kids, keys := roomyNode(pair[0]), roomyNode(pair[1]), roomy(pages(97, 98, 99), -9), roomy(list("new", "newer"), "spare")
			answer := call(n, r, kids, keys)
			for i, given := range []api.Node{n, r} {
				want := pair[i]
				if !isAsGiven(given.Keys, want.Keys, "spare") || !isAsGiven(given.Vals, want.Vals, "spare") || !isAsGiven(given.Kids, want.Kids, -9) {
					t.Errorf("%s: what was handed in is now %s", what, shown(given))
				}
			}
			if !isAsGiven(kids, pages(97, 98, 99), -9) || !isAsGiven(keys, list("new", "newer"), "spare") {
				t.Errorf("%s: what was handed in is now %v, %q", what, kids, keys)
			}
			l := lists{texts: [][]string{keys}, numbers: [][]int{kids}}
			for _, m := range append(answer, n, r) {
				l.add(m)
			}
			apart(t, what, l)
		}
	}
}

// R5: the same call is told the same, whatever was asked between, and whatever
// became of what it answered.
func TestSameAgain(t *testing.T) {
	for name, call := range calls() {
		for _, pair := range handed() {
			first := call(copied(pair[0]), copied(pair[1]), pages(97, 98, 99), list("new", "newer"))
			var was []api.Node
			for _, n := range first {
				was = append(was, copied(n))
				spoil(n.Keys, "spoilt")
				spoil(n.Vals, "spoilt")
				spoil(n.Kids, -7)
			}
			for _, other := range calls() {
				other(copied(pair[1]), copied(pair[0]), pages(3), nil)
			}
			again := call(roomyNode(pair[0]), roomyNode(pair[1]), roomy(pages(97, 98, 99), 1), roomy(list("new", "newer"), ""))
			if !slices.EqualFunc(was, again, same) {
				t.Errorf("%s of %s: %v, then %v", name, shown(pair[0]), was, again)
			}
		}
	}
}

// A list without elements is one, be it nil or not.
func TestNil(t *testing.T) {
	n := api.Node{Leaf: true, Keys: []string{}, Vals: []string{}, Kids: []int{}}
	finds(t, n, "a")
	puts(t, n, "a", "1")
	removes(t, n, "a")
	splitsNot(t, n)
	joins(t, n, "b", leaf("c", "1"), leaf("c", "1"))
	joins(t, leaf(), "b", n, leaf())
	n = holding("a", "b", "c")
	n.Kids = []int{}
	splits(t, n)
	n = between("a", "b", "c")
	n.Vals = []string{}
	splits(t, n)
	replaces(t, n, 0, 4, pages(9), []string{}, inner(nil, 9))
}

// R1: of nodes that may not be there is an answer.
func TestHandMade(t *testing.T) {
	texts := [][]string{nil, list(""), list("b"), list("b", "a"), list("a", "a", "a"), list("c", "", "b", "a", "d"), list(long("a", 1000), "b"), make([]string, 300)}
	kids := [][]int{nil, pages(0), pages(-1, math.MinInt), pages(5, 6, math.MaxInt), pages(1, 1, 1, 1, 1, 1, 1), make([]int, 300)}
	var nodes []api.Node
	for _, keys := range texts {
		for _, vals := range texts {
			for _, l := range kids {
				nodes = append(nodes, api.Node{Keys: keys, Vals: vals, Kids: l}, api.Node{Leaf: true, Keys: keys, Vals: vals, Kids: l})
			}
		}
	}
	for i, n := range nodes {
		before := copied(n)
		for _, key := range list("", "a", "aa", "b", "d", "\xff", long("a", 1000)) {
			cell.Find(n, key)
			cell.Kid(n, key)
			cell.Put(n, key, long("v", 200))
			cell.Remove(n, key)
		}
		cell.Fits(n)
		cell.Low(n)
		l, key, r, e := cell.Split(n)
		if e != api.OK && (e != api.ErrNode || !same(l, api.Node{}) || !same(r, api.Node{}) || key != "") {
			t.Errorf("Split(%s): %s; %q; %s; %d", shown(n), shown(l), key, shown(r), e)
		}
		for j := range 10 {
			cell.Join(n, "m", nodes[(i+j*37)%len(nodes)])
		}
		for _, from := range []int{math.MinInt, -1, 0, 1, 2, 6, 299, 300, math.MaxInt} {
			for _, to := range []int{math.MinInt, -1, 0, 1, 2, 3, 7, 300, 301, math.MaxInt} {
				cell.Replace(n, from, to, pages(9, -3), list(""))
				cell.Replace(n, from, to, nil, nil)
				cell.Replace(n, from, to, pages(9), nil)
			}
		}
		if !same(n, before) {
			t.Errorf("%s is now %s", shown(before), shown(n))
		}
	}
}
