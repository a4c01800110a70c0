package node_test

import (
	"bytes"
	"fmt"
	"math"
	"slices"
	"strings"
	"testing"

	"tailrace/api"
	"tailrace/node"
)

const top = 1<<31 - 1

// leaf makes a leaf of a key and a value, and so on.
func leaf(entries ...string) api.Node {
	n := api.Node{Leaf: true}
	for i, s := range entries {
		if i%2 == 0 {
			n.Keys = append(n.Keys, s)
		} else {
			n.Vals = append(n.Vals, s)
		}
	}
	return n
}

// holding makes a leaf of keys, each with a value of its own.
func holding(keys ...string) api.Node {
	n := api.Node{Leaf: true, Keys: keys}
	for i := range keys {
		n.Vals = append(n.Vals, strings.Repeat("v", i%3))
	}
	return n
}

// between makes an inner node of keys, with kids from 5 on.
func between(keys ...string) api.Node {
	n := api.Node{Keys: keys, Kids: []int{5}}
	for i := range keys {
		n.Kids = append(n.Kids, 6+i)
	}
	return n
}

func inner(keys []string, kids ...int) api.Node { return api.Node{Keys: keys, Kids: kids} }

func list(s ...string) []string { return s }

// long is a text of n bytes that begins with one.
func long(first string, n int) string { return first + strings.Repeat("x", n-1) }

// many are n keys that rise.
func many(n int) []string {
	var l []string
	for i := range n {
		l = append(l, string([]byte{'k', byte(i >> 8), byte(i)}))
	}
	return l
}

func same(a, b api.Node) bool {
	return a.Leaf == b.Leaf && slices.Equal(a.Keys, b.Keys) && slices.Equal(a.Vals, b.Vals) && slices.Equal(a.Kids, b.Kids)
}

func empty(n api.Node) bool { return same(n, api.Node{}) }

// copied is n in memory of its own.
func copied(n api.Node) api.Node {
	n.Keys, n.Vals, n.Kids = slices.Clone(n.Keys), slices.Clone(n.Vals), slices.Clone(n.Kids)
	return n
}

// word is a number in so many bytes.
func word(n, width int) []byte {
	var b []byte
	for len(b) < width {
		b = append([]byte{byte(n)}, b...)
		n >>= 8
	}
	return b
}

// told is a text with the byte of its length ahead.
func told(s string) []byte { return append([]byte{byte(len(s))}, s...) }

// laid are the bytes of P10.2, of any node: what it has of keys, values and
// kids in their turns.
func laid(n api.Node) []byte {
	b := word(len(n.Keys), 2)
	if !n.Leaf && len(n.Kids) > 0 {
		b = append(b, word(n.Kids[0], 4)...)
	}
	for i := range max(len(n.Keys), len(n.Vals), len(n.Kids)-1) {
		if i < len(n.Keys) {
			b = append(b, told(n.Keys[i])...)
		}
		if i < len(n.Vals) {
			b = append(b, told(n.Vals[i])...)
		}
		if !n.Leaf && i+1 < len(n.Kids) {
			b = append(b, word(n.Kids[i+1], 4)...)
		}
	}
	if n.Leaf {
		for _, k := range n.Kids {
			b = append(b, word(k, 4)...)
		}
	}
	return b
}

func kindOf(n api.Node) int {
	if n.Leaf {
		return api.FLeaf
	}
	return api.FInner
}

// shown is the beginning of what there is to tell of n.
func shown(n api.Node) string {
	s := fmt.Sprint(n.Leaf, n.Kids, n.Keys, n.Vals)
	return s[:min(len(s), 200)]
}

// stands asks Check, Size, Encode and Decode of a node that may be, and has
// room.
func stands(t *testing.T, n api.Node) {
	t.Helper()
	want := laid(n)
	if e := node.Check(n); e != api.OK {
		t.Errorf("Check(%s): %d", shown(n), e)
	}
	if s := node.Size(n); s != len(want) {
		t.Errorf("Size(%s): %d, not %d", shown(n), s, len(want))
	}
	kind, b, e := node.Encode(n)
	if kind != kindOf(n) || !bytes.Equal(b, want) || e != api.OK {
		t.Errorf("Encode(%s): %d, %v, %d, not %v", shown(n), kind, b, e, want)
	}
	decodes(t, kindOf(n), want, n)
}

// refused asks that Encode answers an error and nothing else.
func refused(t *testing.T, n api.Node, want api.Errno) {
	t.Helper()
	if kind, b, e := node.Encode(n); kind != 0 || len(b) != 0 || e != want {
		t.Errorf("Encode(%s): %d, %v, %d, not %d", shown(n), kind, b, e, want)
	}
}

// mayNot asks Check, Size and Encode of a node that may not be.
func mayNot(t *testing.T, n api.Node) {
	t.Helper()
	if e := node.Check(n); e != api.ErrNode {
		t.Errorf("Check(%s): %d", shown(n), e)
	}
	if s := node.Size(n); s != len(laid(n)) {
		t.Errorf("Size(%s): %d, not %d", shown(n), s, len(laid(n)))
	}
	refused(t, n, api.ErrNode)
}

// neverWas is of a node that may not be whose bytes could be read: none are.
func neverWas(t *testing.T, n api.Node) {
	t.Helper()
	mayNot(t, n)
	decodesNot(t, kindOf(n), laid(n))
}

// tooBig asks of a node that may be, and has no room.
func tooBig(t *testing.T, n api.Node) {
	t.Helper()
	if e := node.Check(n); e != api.OK {
		t.Errorf("Check: %d", e)
	}
	if s := node.Size(n); s != len(laid(n)) || s <= api.MaxData {
		t.Errorf("Size: %d, not %d", s, len(laid(n)))
	}
	refused(t, n, api.ErrBig)
	decodesNot(t, kindOf(n), laid(n))
}

func decodes(t *testing.T, kind int, b []byte, want api.Node) {
	t.Helper()
	if n, e := node.Decode(kind, b); !same(n, want) || e != api.OK {
		t.Errorf("Decode(%d, %v): %v, %d, not %v", kind, b, n, e, want)
	}
}

func decodesNot(t *testing.T, kind int, b []byte) {
	t.Helper()
	if n, e := node.Decode(kind, b); !empty(n) || e != api.ErrNode {
		t.Errorf("Decode(%d, %v): %v, %d", kind, b, n, e)
	}
}

// The chapter's examples.
func TestExamples(t *testing.T) {
	for _, c := range []struct {
		n    api.Node
		kind int
		b    []byte
	}{
		{leaf("a", "xy"), api.FLeaf, []byte{0, 1, 1, 97, 2, 120, 121}},
		{inner(list("b"), 5, 6), api.FInner, []byte{0, 1, 0, 0, 0, 5, 1, 98, 0, 0, 0, 6}},
	} {
		if kind, b, e := node.Encode(c.n); kind != c.kind || !bytes.Equal(b, c.b) || e != api.OK {
			t.Errorf("Encode(%v): %d, %v, %d", c.n, kind, b, e)
		}
	}
	decodesNot(t, api.FLeaf, []byte{0, 1, 1, 97})
	decodesNot(t, api.FInner, []byte{0, 0, 0, 0, 0, 5})
}

// P10.1 to P10.4: the keys rise.
func TestKeysRise(t *testing.T) {
	for _, keys := range [][]string{
		list("a"), list("a", "b"), list("a", "b", "c", "d"), list("a", "aa"), list("a", "a\x00"), list("\x00"), list("\x00", "\x00\x00"),
		list("ab", "b"), list("B", "a"), list("\x7f", "\x80"), list("a", "\xc3\xa9"), list("\xfe", "\xff", "\xff\x00", "\xff\xff"), list("a\xff", "b"),
		many(40),
	} {
		stands(t, holding(keys...))
		stands(t, between(keys...))
	}
	for _, keys := range [][]string{
		list("a", "a"), list("b", "a"), list("aa", "a"), list("a\x00", "a"), list("a", "B"), list("\x80", "\x7f"), list("\xff", "a"), list("\xff", "\xfe"), list("b", "a\xff"),
		list("b", "b", "c", "d"), list("b", "a", "c", "d"), list("a", "c", "c", "d"), list("a", "c", "b", "d"), list("a", "b", "d", "d"), list("a", "b", "d", "c"),
	} {
		neverWas(t, holding(keys...))
		neverWas(t, between(keys...))
	}
	for i := range 39 {
		keys := many(40)
		keys[i], keys[i+1] = keys[i+1], keys[i]
		neverWas(t, holding(keys...))
		neverWas(t, between(keys...))
		keys = many(40)
		keys[i+1] = keys[i]
		neverWas(t, holding(keys...))
	}
}

// P10.1 to P10.4: a key has 1 to MaxKey bytes.
func TestKeysBytes(t *testing.T) {
	for i := range 3 {
		for n, may := range map[int]bool{0: false, 1: true, 2: true, api.MaxKey - 1: true, api.MaxKey: true, api.MaxKey + 1: false, 200: false, 255: false, 256: false, 257: false, 1000: false} {
			keys := list("a", "b", "c")
			keys[i] = strings.Repeat(keys[i], n)
			switch {
			case may:
				stands(t, holding(keys...))
				stands(t, between(keys...))
			case n < 256:
				neverWas(t, holding(keys...))
				neverWas(t, between(keys...))
			default:
				mayNot(t, holding(keys...))
				mayNot(t, between(keys...))
			}
		}
	}
	for _, n := range []int{0, api.MaxKey + 1} {
		neverWas(t, leaf(strings.Repeat("a", n), ""))
		neverWas(t, inner(list(strings.Repeat("a", n)), 2, 3))
	}
	neverWas(t, leaf("", "", "a", ""))
	neverWas(t, leaf("", "", "", ""))
	neverWas(t, inner(list("", "a"), 2, 3, 4))
}

// P10.1 to P10.4: as many values as keys, of at most MaxVal bytes, and no kids.
func TestLeaves(t *testing.T) {
	stands(t, leaf())
	stands(t, api.Node{Leaf: true, Keys: []string{}, Vals: []string{}, Kids: []int{}})
	stands(t, leaf("a", ""))
	stands(t, leaf("a", "", "b", ""))
	stands(t, leaf("a", "\x00\xff", "b", "\xff"))
	mayNot(t, leaf("a"))
	mayNot(t, leaf("a", "x", "b"))
	mayNot(t, leaf("a", "x", "b", "y", "c"))
	for _, keys := range [][]string{nil, list("a"), list("a", "b"), list("a", "b", "c")} {
		for vals := range 5 {
			n := api.Node{Leaf: true, Keys: keys, Vals: slices.Repeat(list("v"), vals)}
			if vals == len(keys) {
				stands(t, n)
			} else {
				mayNot(t, n)
			}
		}
		for kids := 1; kids < 6; kids++ {
			n := holding(keys...)
			n.Kids = slices.Repeat([]int{7}, kids)
			mayNot(t, n)
			n.Vals = nil
			mayNot(t, n)
		}
	}
	for i := range 3 {
		for _, length := range []int{0, 1, api.MaxVal - 1, api.MaxVal} {
			n := holding("a", "b", "c")
			n.Vals[i] = strings.Repeat("w", length)
			stands(t, n)
		}
		for _, length := range []int{api.MaxVal + 1, api.MaxKey, 200, 255} {
			n := holding("a", "b", "c")
			n.Vals[i] = strings.Repeat("w", length)
			neverWas(t, n)
		}
		for _, length := range []int{256, 300, 1000, 70000} {
			n := holding("a", "b", "c")
			n.Vals[i] = strings.Repeat("w", length)
			mayNot(t, n)
		}
	}
	neverWas(t, leaf("a", strings.Repeat("w", api.MaxVal+1)))
}

// P10.1 to P10.4: a key, one kid more than keys, each one a page, and no values.
func TestInnerNodes(t *testing.T) {
	stands(t, inner(list("b"), 2, 3))
	stands(t, inner(list("b"), 3, 2))
	stands(t, inner(list("b"), 5, 5))
	stands(t, inner(list("b", "c"), 1<<24, 1<<16, 1<<8))
	stands(t, inner(list("b"), 0x01020304, 0x7ffefdfc))
	mayNot(t, api.Node{})
	for kids := range 4 {
		n := inner(nil, slices.Repeat([]int{5}, kids)...)
		mayNot(t, n)
		n.Vals = list("v")
		mayNot(t, n)
	}
	neverWas(t, inner(nil, 5))
	for _, keys := range [][]string{list("a"), list("a", "b"), list("a", "b", "c")} {
		for kids := range 7 {
			n := inner(keys, slices.Repeat([]int{5}, kids)...)
			if kids == len(keys)+1 {
				stands(t, n)
			} else {
				mayNot(t, n)
			}
		}
		for vals := 1; vals < 5; vals++ {
			n := between(keys...)
			n.Vals = slices.Repeat(list(""), vals)
			mayNot(t, n)
			n.Kids = nil
			mayNot(t, n)
		}
		for i := range len(keys) + 1 {
			for _, page := range []int{api.First, api.First + 1, 255, 256, top - 1, top} {
				n := between(keys...)
				n.Kids[i] = page
				stands(t, n)
			}
			for _, page := range []int{api.First - 1, 0, -1, -2, top + 1, top + 2, math.MinInt32} {
				n := between(keys...)
				n.Kids[i] = page
				neverWas(t, n)
			}
			// Beyond four bytes another page's bytes would stand there.
			for _, page := range []int{1<<32 + 2, 1<<32 - 1, math.MaxInt64, math.MinInt64, math.MinInt64 + 5, -1 << 32, 2 - 1<<32} {
				n := between(keys...)
				n.Kids[i] = page
				mayNot(t, n)
			}
		}
	}
}

// P10.2: Size of any node, hand-made ones too.
func TestSize(t *testing.T) {
	for _, c := range []struct {
		n    api.Node
		want int
	}{
		{api.Node{}, 2},
		{api.Node{Leaf: true}, 2},
		{leaf("a", "xy"), 7},
		{inner(list("b"), 5, 6), 12},
		{api.Node{Keys: list("")}, 3},
		{api.Node{Leaf: true, Keys: list("")}, 3},
		{api.Node{Keys: list("abc")}, 6},
		{api.Node{Vals: list("")}, 3},
		{api.Node{Vals: list("abcd", "")}, 8},
		{api.Node{Leaf: true, Vals: list("abcd", "")}, 8},
		{api.Node{Kids: []int{-1}}, 6},
		{api.Node{Leaf: true, Kids: []int{1, 1 << 40, 3}}, 14},
		{api.Node{Keys: list("b", "a"), Vals: list("v"), Kids: []int{0}}, 12},
		{api.Node{Leaf: true, Keys: list("b", "a"), Vals: list("v"), Kids: []int{0}}, 12},
		{api.Node{Keys: list(strings.Repeat("k", 100000))}, 100003},
		{api.Node{Keys: make([]string, 70000), Kids: make([]int, 70000)}, 350002},
	} {
		if s := node.Size(c.n); s != c.want {
			t.Errorf("Size: %d, not %d", s, c.want)
		}
	}
}

// filled makes a leaf and an inner node of just so many bytes, 850 to MaxData:
// the last keys, and a value, take what the others leave.
func filled(size int) []api.Node {
	l := leaf(long("a", api.MaxKey), long("v", 90), long("b", api.MaxKey), long("v", 90), long("c", api.MaxKey), long("v", 90), long("d", 100), long("v", 50))
	left := size - node.Size(l) - 2
	if left > api.MaxKey {
		l.Keys = append(l.Keys, long("e", api.MaxKey))
		l.Vals = append(l.Vals, strings.Repeat("w", left-api.MaxKey))
	} else {
		l.Keys = append(l.Keys, long("e", left))
		l.Vals = append(l.Vals, "")
	}
	n := between(long("a", api.MaxKey), long("b", api.MaxKey), long("c", api.MaxKey), long("d", api.MaxKey), long("e", api.MaxKey), long("f", api.MaxKey))
	left = size - node.Size(n) - 10
	n.Keys = append(n.Keys, long("g", left/2), long("h", left-left/2))
	n.Kids = append(n.Kids, 77, top)
	return []api.Node{l, n}
}

// P10.3: a node has at most MaxData bytes.
func TestRoom(t *testing.T) {
	for size := 850; size <= api.MaxData; size++ {
		for _, n := range filled(size) {
			if node.Size(n) != size {
				t.Fatalf("%d bytes, not %d", node.Size(n), size)
			}
			stands(t, n)
		}
	}
	for _, more := range []int{1, 2, 3} {
		l := filled(api.MaxData)
		l[0].Vals[0] += strings.Repeat("v", more)
		l[1].Keys[6] += strings.Repeat("x", more)
		for _, n := range l {
			if node.Size(n) != api.MaxData+more {
				t.Fatalf("%d bytes", node.Size(n))
			}
			tooBig(t, n)
		}
	}
	tooBig(t, holding(many(300)...))
	tooBig(t, between(many(300)...))
	stands(t, holding(many(166)...))
	tooBig(t, holding(many(167)...))
	stands(t, between(many(124)...))
	tooBig(t, between(many(125)...))
}

// P10.3: a count of keys that has no two bytes is refused as any that is too
// big.
func TestManyKeys(t *testing.T) {
	var keys []string
	for i := range 1<<16 + 1 {
		keys = append(keys, string(word(i, 3)))
	}
	for _, n := range []int{1<<16 - 1, 1 << 16, 1<<16 + 1} {
		for _, big := range []api.Node{holding(keys[:n]...), between(keys[:n]...)} {
			if e := node.Check(big); e != api.OK {
				t.Errorf("Check: %d", e)
			}
			refused(t, big, api.ErrBig)
		}
	}
}

// P10.3: ErrNode is ahead of ErrBig.
func TestErrorsInTurn(t *testing.T) {
	for i, spoil := range []func(n *api.Node){
		func(n *api.Node) { n.Keys[1] = n.Keys[0] },
		func(n *api.Node) { n.Keys[0] = "" },
		func(n *api.Node) { n.Keys[299] = long("l", api.MaxKey+1) },
		func(n *api.Node) { n.Keys = n.Keys[:299] },
		func(n *api.Node) { n.Leaf = !n.Leaf },
		func(n *api.Node) { n.Vals = append(n.Vals, strings.Repeat("w", api.MaxVal+1)) },
		func(n *api.Node) { n.Kids = append(n.Kids, 1) },
	} {
		for _, n := range []api.Node{holding(many(300)...), between(many(300)...)} {
			tooBig(t, n)
			spoil(&n)
			if e := node.Check(n); e != api.ErrNode {
				t.Errorf("%d: Check: %d", i, e)
			}
			refused(t, n, api.ErrNode)
		}
	}
}

// P10.3: bytes that are no node's, of each kind.
func TestDecodeKinds(t *testing.T) {
	bits := [][]byte{nil, {}, {0}, {1}, {0, 0}, {0, 1}, {1, 0}, {255, 255}, laid(leaf("a", "xy")), laid(inner(list("b"), 5, 6)), laid(holding(many(30)...)), laid(between(many(30)...))}
	for kind := -300; kind <= 600; kind++ {
		if kind == api.FLeaf || kind == api.FInner {
			continue
		}
		for _, b := range bits {
			decodesNot(t, kind, b)
		}
	}
	for _, kind := range []int{math.MinInt64, math.MaxInt64, 1<<32 + api.FLeaf, 1<<8 + api.FInner, -api.FLeaf, 1<<31 - 1} {
		for _, b := range bits {
			decodesNot(t, kind, b)
		}
	}
	for _, kind := range []int{api.FLeaf, api.FInner} {
		for _, b := range bits[:4] {
			decodesNot(t, kind, b)
		}
	}
	decodes(t, api.FLeaf, []byte{0, 0}, leaf())
	decodesNot(t, api.FInner, []byte{0, 0})
	for _, n := range []api.Node{leaf(), leaf("a", "xy"), leaf("a", "", "b", ""), holding(many(30)...)} {
		decodesNot(t, api.FInner, laid(n))
	}
	for _, n := range []api.Node{inner(list("b"), 5, 6), between(many(30)...)} {
		decodesNot(t, api.FLeaf, laid(n))
	}
	// Bytes that both kinds have: a node of each.
	b := []byte{0, 1, 0, 0, 0, 5, 1, 98, 0, 0, 0, 6}
	decodes(t, api.FInner, b, inner(list("b"), 5, 6))
	decodesNot(t, api.FLeaf, b)
	b = []byte{0, 1, 5, 0, 0, 5, 4, 1, 0, 0, 0}
	decodes(t, api.FLeaf, append([]byte{0, 1, 5, 0, 0, 5, 1, 98, 4}, 0, 0, 0, 6), leaf("\x00\x00\x05\x01\x62", "\x00\x00\x00\x06"))
	decodes(t, api.FInner, append([]byte{0, 1, 5, 0, 0, 5, 2, 98, 4}, 0, 0, 0, 6), inner(list("b\x04"), 5<<24+5, 6))
	decodesNot(t, api.FInner, b)
}

// P10.3: bytes fewer, and more, and counts and lengths that are others.
func TestDecodeBytes(t *testing.T) {
	for _, n := range []api.Node{leaf(), leaf("a", ""), leaf("a", "xy"), leaf("a", "x", "b", ""), holding(many(20)...), inner(list("b"), 5, 6), between("b", "cc", "d"), between(many(20)...)} {
		kind, b := kindOf(n), laid(n)
		stands(t, n)
		for i := range b {
			decodesNot(t, kind, b[:i])
		}
		for c := range 256 {
			decodesNot(t, kind, append(bytes.Clone(b), byte(c)))
			decodesNot(t, kind, append([]byte{byte(c)}, b...))
		}
		decodesNot(t, kind, append(bytes.Clone(b), b...))
		for count := range 1 << 16 {
			if count != len(n.Keys) {
				decodesNot(t, kind, append(word(count, 2), b[2:]...))
			}
		}
	}
	// Lengths that reach behind the end, or not up to it.
	l := []byte{0, 1, 1, 97, 2, 120, 121}
	for at, own := range map[int]byte{2: 1, 4: 2} {
		for c := range 256 {
			b := bytes.Clone(l)
			b[at] = byte(c)
			if b[at] == own {
				decodes(t, api.FLeaf, b, leaf("a", "xy"))
			} else {
				decodesNot(t, api.FLeaf, b)
			}
		}
	}
	for c := range 256 {
		b := []byte{0, 1, 0, 0, 0, 5, byte(c), 98, 0, 0, 0, 6}
		if c == 1 {
			decodes(t, api.FInner, b, inner(list("b"), 5, 6))
		} else {
			decodesNot(t, api.FInner, b)
		}
	}
}

// P10.3: bytes of nodes that may not be.
func TestDecodeOthers(t *testing.T) {
	decodesNot(t, api.FLeaf, []byte{0, 1, 0, 0})
	decodesNot(t, api.FLeaf, []byte{0, 2, 0, 0, 1, 97, 0})
	decodesNot(t, api.FLeaf, []byte{0, 2, 1, 97, 0, 1, 97, 0})
	decodesNot(t, api.FLeaf, []byte{0, 2, 1, 98, 0, 1, 97, 0})
	decodes(t, api.FLeaf, []byte{0, 2, 1, 97, 0, 1, 98, 0}, leaf("a", "", "b", ""))
	decodesNot(t, api.FInner, []byte{0, 0})
	decodesNot(t, api.FInner, []byte{0, 0, 0, 0, 0, 5})
	decodesNot(t, api.FInner, []byte{0, 1, 0, 0, 0, 5, 0, 0, 0, 0, 6})
	decodesNot(t, api.FInner, []byte{0, 1, 0, 0, 0, 1, 1, 98, 0, 0, 0, 6})
	decodesNot(t, api.FInner, []byte{0, 1, 0, 0, 0, 5, 1, 98, 0, 0, 0, 1})
	decodesNot(t, api.FInner, []byte{0, 1, 0, 0, 0, 0, 1, 98, 0, 0, 0, 6})
	decodesNot(t, api.FInner, []byte{0, 1, 128, 0, 0, 0, 1, 98, 0, 0, 0, 6})
	decodesNot(t, api.FInner, []byte{0, 1, 0, 0, 0, 5, 1, 98, 255, 255, 255, 255})
	decodes(t, api.FInner, []byte{0, 1, 0, 0, 0, 2, 1, 98, 127, 255, 255, 255}, inner(list("b"), 2, top))
	decodesNot(t, api.FInner, []byte{0, 2, 0, 0, 0, 5, 1, 98, 0, 0, 0, 6, 1, 98, 0, 0, 0, 7})
	for _, kind := range []int{api.FLeaf, api.FInner} {
		for _, n := range []int{api.MaxData - 1, api.MaxData, api.MaxData + 1, 5000, 100000} {
			for _, c := range []byte{0, 1, 2, 127, 255} {
				decodesNot(t, kind, bytes.Repeat([]byte{c}, n))
			}
		}
	}
}

// readAs is P10.3's Decode, byte by byte: the node that may be of which the
// bytes are those of P10.2.
func readAs(kind int, b []byte) (api.Node, bool) {
	n := api.Node{Leaf: kind == api.FLeaf}
	at := 2
	text := func() string {
		if at >= len(b) {
			at = len(b) + 1
			return ""
		}
		end := at + 1 + int(b[at])
		s := string(b[min(at+1, len(b)):min(end, len(b))])
		at = end
		return s
	}
	kid := func() int {
		k := 0
		for range 4 {
			if at < len(b) {
				k = k*256 + int(b[at])
			}
			at++
		}
		return k
	}
	if len(b) < 2 || len(b) > 1000 {
		return api.Node{}, false
	}
	if !n.Leaf {
		n.Kids = append(n.Kids, kid())
	}
	for i := 0; i < int(b[0])*256+int(b[1]) && at <= len(b); i++ {
		n.Keys = append(n.Keys, text())
		if n.Leaf {
			n.Vals = append(n.Vals, text())
		} else {
			n.Kids = append(n.Kids, kid())
		}
	}
	if at != len(b) || len(n.Keys) != int(b[0])*256+int(b[1]) || !may(n) {
		return api.Node{}, false
	}
	return n, true
}

// may is P10.1's Check, word by word.
func may(n api.Node) bool {
	for i, k := range n.Keys {
		if len(k) < 1 || len(k) > 120 || i > 0 && strings.Compare(n.Keys[i-1], k) >= 0 {
			return false
		}
	}
	if n.Leaf {
		for _, v := range n.Vals {
			if len(v) > 100 {
				return false
			}
		}
		return len(n.Vals) == len(n.Keys) && len(n.Kids) == 0
	}
	for _, k := range n.Kids {
		if k < 2 || k > 2147483647 {
			return false
		}
	}
	return len(n.Keys) != 0 && len(n.Kids)-len(n.Keys) == 1 && len(n.Vals) == 0
}

// asked holds Decode against readAs; it tells whether there is a node.
func asked(t *testing.T, kind int, b []byte) bool {
	t.Helper()
	n, is := readAs(kind, b)
	if is {
		stands(t, n)
		decodes(t, kind, b, n)
	} else {
		decodesNot(t, kind, b)
	}
	return is
}

// P10.3, P10.4: all small bytes.
func TestAllSmallBytes(t *testing.T) {
	nodes := 0
	count := func(kind int, b []byte) {
		if asked(t, kind, b) {
			nodes++
		}
	}
	var each func(kind int, b []byte, of []byte, length int)
	each = func(kind int, b []byte, of []byte, length int) {
		count(kind, b)
		if length == 0 {
			return
		}
		for _, c := range of {
			each(kind, append(bytes.Clone(b), c), of, length-1)
		}
	}
	each(api.FLeaf, nil, []byte{0, 1, 2, 97}, 8)
	each(api.FLeaf, nil, []byte{0, 1, 2}, 9)
	// An inner node has at least 11 bytes: those behind some beginnings.
	for _, begin := range [][]byte{{0, 1, 0, 0, 0, 2}, {0, 1, 0, 0, 0, 1}, {0, 2, 0, 0, 0, 2, 1, 97, 0, 0, 1, 0}, {0, 1}, {0, 0}} {
		each(api.FInner, begin, []byte{0, 1, 2}, 8)
	}
	if nodes < 100 {
		t.Errorf("only %d nodes", nodes)
	}
}

// numbers makes numbers from a seed, always the same ones.
func numbers(seed uint64) func(below int) int {
	return func(below int) int {
		seed = seed*6364136223846793005 + 1442695040888963407
		return int(seed>>33) % below
	}
}

// some makes a node: mostly one that may be.
func some(next func(int) int) api.Node {
	keys := map[string]bool{}
	for range next(25) {
		k := []byte{byte(next(256))}
		for range next(api.MaxKey) * next(2) {
			k = append(k, byte(next(256)))
		}
		keys[string(k)] = true
	}
	n := api.Node{Leaf: next(2) == 0}
	for k := range keys {
		n.Keys = append(n.Keys, k)
	}
	slices.Sort(n.Keys)
	if n.Leaf {
		for range n.Keys {
			n.Vals = append(n.Vals, strings.Repeat("v", next(api.MaxVal+1)*next(2)))
		}
		return n
	}
	for range len(n.Keys) + 1 {
		n.Kids = append(n.Kids, 2+next(top-2))
	}
	return n
}

// P10.1 to P10.4: nodes of many shapes, and their bytes with some turned, taken
// out, or put in.
func TestManyNodes(t *testing.T) {
	next := numbers(10)
	was, turned, big := 0, 0, 0
	for range 3000 {
		n := some(next)
		switch b := laid(n); {
		case !may(n):
			mayNot(t, n)
		case len(b) > api.MaxData:
			big++
			tooBig(t, n)
		default:
			was++
			stands(t, n)
			for range 10 {
				other := bytes.Clone(b)
				at := next(len(other))
				switch next(4) {
				case 0:
					other[at] ^= byte(1 << next(8))
				case 1:
					other[at] = byte(next(256))
				case 2:
					other = slices.Delete(other, at, at+1)
				case 3:
					other = slices.Insert(other, at, byte(next(256)))
				}
				if asked(t, kindOf(n), other) {
					turned++
				}
				asked(t, api.FLeaf+api.FInner-kindOf(n), other)
			}
		}
	}
	if was < 1000 || turned < 1000 || big < 50 {
		t.Errorf("%d nodes, %d of turned bytes, %d too big", was, turned, big)
	}
}

// roomy is a list with spare room that is filled.
func roomy[E any](l []E, spare E) []E {
	r := append(slices.Clone(l), spare, spare)
	return r[:len(l)]
}

// R4: what is handed in is not changed, its spare room included.
func TestHandedIn(t *testing.T) {
	for _, n := range []api.Node{leaf("a", "x", "b", "y"), between("a", "b", "c"), {}, leaf("b", "", "a", ""), inner(list("b"), 1, 2), holding(many(300)...)} {
		given := api.Node{Leaf: n.Leaf, Keys: roomy(n.Keys, "z"), Vals: roomy(n.Vals, "w"), Kids: roomy(n.Kids, 9)}
		node.Check(given)
		node.Size(given)
		node.Encode(given)
		if !same(given, n) {
			t.Errorf("%v is now %v", n, given)
		}
		for _, s := range [][]string{given.Keys, given.Vals} {
			if spare := s[len(s) : len(s)+2]; spare[0] == "" || spare[1] != spare[0] {
				t.Errorf("%v: spare room is now %q", n, spare)
			}
		}
		if spare := given.Kids[len(given.Kids) : len(given.Kids)+2]; !slices.Equal(spare, []int{9, 9}) {
			t.Errorf("%v: spare room is now %v", n, spare)
		}
	}
	for _, c := range []struct {
		kind int
		b    []byte
	}{{api.FLeaf, laid(leaf("a", "x"))}, {api.FInner, laid(between("a", "b"))}, {api.FLeaf, []byte{0, 2, 1}}, {api.FSpace, []byte{0, 0}}} {
		given := roomy(c.b, 99)
		node.Decode(c.kind, given)
		if !bytes.Equal(given[:len(given)+2], append(bytes.Clone(c.b), 99, 99)) {
			t.Errorf("%v is now %v", c.b, given[:len(given)+2])
		}
	}
}

// spoil changes all bytes of a list, its spare room included.
func spoil[E any](l []E, with E) {
	l = l[:cap(l)]
	for i := range l {
		l[i] = with
	}
}

func spoilNode(n api.Node) {
	spoil(n.Keys, "spoilt")
	spoil(n.Vals, "spoilt")
	spoil(n.Kids, -7)
}

// R4: what is answered is memory of its own.
func TestAnswered(t *testing.T) {
	for _, n := range []api.Node{leaf("a", "x", "b", "y"), between("a", "b", "c"), leaf()} {
		want := copied(n)
		bytesWant := laid(n)
		given := copied(n)
		_, first, _ := node.Encode(given)
		_, second, _ := node.Encode(given)
		spoilNode(given)
		spoil(first, 99)
		if !bytes.Equal(second, bytesWant) {
			t.Errorf("bytes of %v are now %v", n, second)
		}

		given = copied(n)
		_, answer, _ := node.Encode(given)
		spoil(answer, 99)
		if !same(given, want) {
			t.Errorf("%v is now %v", want, given)
		}

		b := roomy(bytesWant, 5)
		one, _ := node.Decode(kindOf(n), b)
		other, _ := node.Decode(kindOf(n), b)
		spoilNode(one)
		if !bytes.Equal(b, bytesWant) || !bytes.Equal(b[len(b):len(b)+2], []byte{5, 5}) {
			t.Errorf("%v is now %v", bytesWant, b)
		}
		spoil(b, 99)
		if !same(other, want) {
			t.Errorf("%v is now %v", want, other)
		}
		// Of one answer too no list lies in another one's room.
		other, _ = node.Decode(kindOf(n), bytesWant)
		spoil(other.Keys, "spoilt")
		if !slices.Equal(other.Vals, want.Vals) || !slices.Equal(other.Kids, want.Kids) {
			t.Errorf("%v: its lists share memory", want)
		}
	}
}

// R5: the same call is told the same, whatever was asked between.
func TestSameAgain(t *testing.T) {
	n := between("a", "b", "c")
	_, first, _ := node.Encode(n)
	node.Encode(leaf("q", "r"))
	node.Decode(api.FLeaf, []byte{0, 1, 1})
	if kind, again, e := node.Encode(n); kind != api.FInner || !bytes.Equal(first, again) || e != api.OK {
		t.Errorf("%v, then %v", first, again)
	}
	decodes(t, api.FInner, first, n)
	// A list without elements is one, be it nil or not.
	stands(t, api.Node{Leaf: true, Keys: list("a"), Vals: list(""), Kids: []int{}})
	stands(t, api.Node{Keys: list("a"), Vals: []string{}, Kids: []int{2, 3}})
}
