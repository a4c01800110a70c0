package crc_test

import (
	"bytes"
	"hash/crc32"
	"math"
	"slices"
	"testing"

	"tailrace/crc"
)

// steps is P3.1's step, eight times, bit by bit.
func steps(word uint32) uint32 {
	for range 8 {
		out := word & 1
		word >>= 1
		if out == 1 {
			word ^= 0xEDB88320
		}
	}
	return word
}

// slowMore is P3.2's More word for word, without a table.
func slowMore(sum uint32, b []byte) uint32 {
	word := sum ^ 0xFFFFFFFF
	for _, c := range b {
		word = steps(word ^ uint32(c))
	}
	return word ^ 0xFFFFFFFF
}

// mixed are n bytes of all values, none of them repeated in a simple order.
func mixed(n int) []byte {
	b := make([]byte, n)
	word := uint32(1)
	for i := range b {
		word = word*1664525 + 1013904223
		b[i] = byte(word >> 24)
	}
	return b
}

// risingBytes are n bytes 0, 1, 2 and so on, from 0 again behind 255.
func risingBytes(n int) []byte {
	b := make([]byte, n)
	for i := range b {
		b[i] = byte(i)
	}
	return b
}

// lists are lists of many lengths and of many bytes, nil and each byte alone among them.
func lists() [][]byte {
	l := [][]byte{nil, {}}
	for c := range 256 {
		l = append(l, []byte{byte(c)})
	}
	for _, n := range []int{2, 3, 4, 5, 7, 8, 9, 31, 32, 33, 255, 256, 257, 1000, 1023, 1024, 1025, 70000} {
		l = append(l, bytes.Repeat([]byte{0}, n), bytes.Repeat([]byte{255}, n), risingBytes(n), mixed(n))
	}
	return append(l, []byte("123456789"), []byte("tailrace"), []byte("\xc3\xa4\x00\xff"))
}

// words are check sums to go on from: 0, 32 ones, each bit alone, and ones that are no Sum of what is at hand.
func words() []uint32 {
	l := []uint32{0, math.MaxUint32, 0x12345678, 0x87654321, 0xEDB88320, 0x04C11DB7, 0xDEBB20E3, 0x2144DF1C, 0xAAAAAAAA, 0x55555555, 0x00FF00FF}
	for i := range 32 {
		l = append(l, 1<<i, ^uint32(1<<i))
	}
	return l
}

// P3.1
func TestTableOfEachByte(t *testing.T) {
	table := crc.Table()
	for c, word := range table {
		if want := steps(uint32(c)); word != want {
			t.Errorf("Table of %d: %08X, not %08X", c, word, want)
		}
	}
	if table != [256]uint32(*crc32.MakeTable(crc32.IEEE)) {
		t.Errorf("Table is not Ethernet's: %08X", table)
	}
}

// P3.1
func TestTableAtItsEdges(t *testing.T) {
	table := crc.Table()
	for c, want := range map[int]uint32{
		0: 0, 1: 0x77073096, 2: 0xEE0E612C, 3: 0x990951BA, 127: 0xC0BA6CAD, 128: 0xEDB88320, 129: 0x9ABFB3B6, 254: 0x5A05DF1B, 255: 0x2D02EF8D,
	} {
		if table[c] != want {
			t.Errorf("Table of %d: %08X, not %08X", c, table[c], want)
		}
	}
}

// P3.1: steps of a byte are the sum (^) of those of its bits, and no two bytes' are the same.
func TestTablesWordsFollowTheBits(t *testing.T) {
	table := crc.Table()
	seen := map[uint32]int{}
	for a := range 256 {
		if b, is := seen[table[a]]; is {
			t.Errorf("Table of %d and of %d: %08X", b, a, table[a])
		}
		seen[table[a]] = a
		for b := range 256 {
			if table[a]^table[b] != table[a^b] {
				t.Errorf("Table of %d, of %d, and of %d: %08X, %08X, %08X", a, b, a^b, table[a], table[b], table[a^b])
			}
		}
	}
}

// R4, R5: who changes one answer changes no other, and no check sum.
func TestTableIsNewEachTime(t *testing.T) {
	table := crc.Table()
	for i := range table {
		table[i] = 77
	}
	if again := crc.Table(); again[1] != 0x77073096 || again[255] != 0x2D02EF8D {
		t.Errorf("Table was changed: %08X, %08X", again[1], again[255])
	}
	if n := crc.Sum([]byte("123456789")); n != 0xCBF43926 {
		t.Errorf("Sum was changed: %08X", n)
	}
}

// P3.2
func TestSumOfKnownBytes(t *testing.T) {
	for s, want := range map[string]uint32{
		"":                                    0,
		"\x00":                                0xD202EF8D,
		"\xff":                                0xFF000000,
		"\x00\x00\x00\x00":                    0x2144DF1C,
		"\xff\xff\xff\xff":                    0xFFFFFFFF,
		"a":                                   0xE8B7BE43,
		"abc":                                 0x352441C2,
		"123456789":                           0xCBF43926,
		"tailrace":                            0xE8EBA73F,
		string(make([]byte, 32)):              0x190A55AD,
		string(bytes.Repeat([]byte{255}, 32)): 0xFF6CAB0B,
		string(risingBytes(32)):               0x91267E8A,
	} {
		if n := crc.Sum([]byte(s)); n != want {
			t.Errorf("Sum(%q): %08X, not %08X", s, n, want)
		}
	}
}

// P3.2
func TestSumOfNoBytes(t *testing.T) {
	if a, b := crc.Sum(nil), crc.Sum([]byte{}); a != 0 || b != 0 {
		t.Errorf("Sum of nil, of no bytes: %08X, %08X", a, b)
	}
}

// P3.2
func TestSumOfOneByte(t *testing.T) {
	table := crc.Table()
	for c := range 256 {
		want := ^(0x00FFFFFF ^ table[255-c])
		if n := crc.Sum([]byte{byte(c)}); n != want {
			t.Errorf("Sum of the byte %d: %08X, not %08X", c, n, want)
		}
	}
}

// P3.2
func TestSumOfManyLists(t *testing.T) {
	for _, b := range append(lists(), mixed(1<<20)) {
		n := crc.Sum(b)
		if want := slowMore(0, b); n != want || n != crc32.ChecksumIEEE(b) {
			t.Errorf("Sum of %d bytes, %d first: %08X, not %08X", len(b), b[:min(len(b), 4)], n, want)
		}
		if m := crc.More(0, b); m != n {
			t.Errorf("More(0, %d bytes): %08X, Sum is %08X", len(b), m, n)
		}
	}
}

// P3.2
func TestMoreFromAnyWord(t *testing.T) {
	for _, w := range words() {
		for _, b := range lists() {
			if len(b) > 1024 {
				continue
			}
			if n, want := crc.More(w, b), slowMore(w, b); n != want || n != crc32.Update(w, crc32.IEEETable, b) {
				t.Errorf("More(%08X, %d bytes, %d first): %08X, not %08X", w, len(b), b[:min(len(b), 4)], n, want)
			}
		}
	}
}

// P3.2
func TestMoreOfNoBytesIsTheSumItself(t *testing.T) {
	for _, w := range words() {
		if a, b := crc.More(w, nil), crc.More(w, []byte{}); a != w || b != w {
			t.Errorf("More(%08X, none): %08X, %08X", w, a, b)
		}
	}
}

// P3.2: from 32 ones the word is 0: bytes 0 leave it so, and one byte's is the table's.
func TestMoreFromThirtyTwoOnes(t *testing.T) {
	for _, n := range []int{0, 1, 2, 1024} {
		if m := crc.More(math.MaxUint32, make([]byte, n)); m != math.MaxUint32 {
			t.Errorf("More from 32 ones, of %d bytes 0: %08X", n, m)
		}
	}
	for c, word := range crc.Table() {
		if m := crc.More(math.MaxUint32, []byte{byte(c)}); m != ^word {
			t.Errorf("More from 32 ones, of the byte %d: %08X, not %08X", c, m, ^word)
		}
	}
}

// P3.3: cut at each place, the first part or the second without bytes too.
func TestMoreOfASumIsTheSumOfBoth(t *testing.T) {
	for _, b := range lists() {
		if len(b) > 1025 {
			continue
		}
		want := crc.Sum(b)
		for i := range len(b) + 1 {
			if n := crc.More(crc.Sum(b[:i]), b[i:]); n != want {
				t.Fatalf("%d bytes cut at %d: %08X, not %08X", len(b), i, n, want)
			}
		}
	}
}

// P3.3: likewise of parts of parts, and from any word.
func TestMoreOfMoreIsMoreOfBoth(t *testing.T) {
	b := mixed(300)
	for _, w := range words() {
		want := crc.More(w, b)
		for size := 1; size <= len(b); size += 13 {
			n := w
			for part := range slices.Chunk(b, size) {
				n = crc.More(n, part)
			}
			if n != want {
				t.Errorf("from %08X, by parts of %d bytes: %08X, not %08X", w, size, n, want)
			}
		}
	}
}

// P3.3: the first, the last, or one between, by each other byte.
func TestSumOfBytesOneOfWhichIsAnother(t *testing.T) {
	for _, b := range [][]byte{
		{0}, {255}, {7}, {0, 0}, make([]byte, 64), bytes.Repeat([]byte{255}, 64), []byte("123456789"), mixed(257), mixed(1024),
	} {
		was := crc.Sum(b)
		for _, i := range []int{0, len(b) / 3, len(b) / 2, len(b) - 1} {
			seen := map[uint32]int{was: 0}
			for by := 1; by < 256; by++ {
				other := bytes.Clone(b)
				other[i] ^= byte(by)
				n := crc.Sum(other)
				if m, is := seen[n]; is {
					t.Errorf("%d bytes, the one at %d turned by %d and by %d: %08X", len(b), i, m, by, n)
				}
				seen[n] = by
			}
		}
	}
}

// P3.3: at each place of a list as long as a sector.
func TestSumOfASectorOneByteOfWhichIsAnother(t *testing.T) {
	b := mixed(1024)
	was := crc.Sum(b)
	for i := range b {
		for _, by := range []byte{1, 128, 255} {
			b[i] ^= by
			if n := crc.Sum(b); n == was {
				t.Errorf("the byte at %d turned by %d: %08X", i, by, n)
			}
			b[i] ^= by
		}
	}
}

// P3.3
func TestUnlikeSumsStayUnlikeBehindTheSameBytes(t *testing.T) {
	from := words()
	for _, b := range lists() {
		if len(b) > 1025 {
			continue
		}
		seen := map[uint32]uint32{}
		for _, w := range from {
			n := crc.More(w, b)
			if v, is := seen[n]; is && v != w {
				t.Errorf("%08X and %08X behind %d bytes: %08X", v, w, len(b), n)
			}
			seen[n] = w
		}
	}
}

// P3.2, P3.3: whatever the word and the bytes are, and wherever they are cut.
func FuzzMore(f *testing.F) {
	f.Add(uint32(0), []byte("123456789"), 4, byte(1))
	f.Add(uint32(math.MaxUint32), []byte{}, 0, byte(0))
	f.Add(uint32(0xEDB88320), []byte{255, 0, 255}, 3, byte(255))
	f.Fuzz(func(t *testing.T, w uint32, b []byte, at int, by byte) {
		n := crc.More(w, b)
		if want := slowMore(w, b); n != want {
			t.Fatalf("More(%08X, %d): %08X, not %08X", w, b, n, want)
		}
		if len(b) == 0 {
			return
		}
		at = int(uint(at) % uint(len(b)))
		if m := crc.More(crc.More(w, b[:at]), b[at:]); m != n {
			t.Errorf("More(%08X, %d) cut at %d: %08X, not %08X", w, b, at, m, n)
		}
		other := bytes.Clone(b)
		other[at] ^= by
		if m := crc.More(w, other); (m == n) != (by == 0) {
			t.Errorf("More(%08X, %d), the byte at %d turned by %d: %08X, %08X", w, b, at, by, n, m)
		}
	})
}

// R4, R5: the bytes stay as they are, with their spare room, which is not summed.
func TestBytesAreNeitherChangedNorKept(t *testing.T) {
	room := []byte("123456789spare")
	was := bytes.Clone(room)
	if n, m := crc.Sum(room[:9]), crc.More(0, room[:9:9]); n != 0xCBF43926 || m != n {
		t.Errorf("Sum of bytes with spare room, More without: %08X, %08X", n, m)
	}
	if !bytes.Equal(room, was) {
		t.Errorf("the bytes are %q", room)
	}
	clear(room)
	if n := crc.Sum([]byte("123456789")); n != 0xCBF43926 {
		t.Errorf("Sum behind a change of other bytes: %08X", n)
	}
}

// The chapter's table of examples.
func TestExamples(t *testing.T) {
	if n, none := crc.Sum([]byte("123456789")), crc.Sum(nil); n != 0xCBF43926 || none != 0 {
		t.Errorf("Sum(`123456789`), Sum(none): %08X, %X", n, none)
	}
	if table := crc.Table(); table[1] != 0x77073096 || table[128] != 0xEDB88320 {
		t.Errorf("Table of 1, of 128: %08X, %08X", table[1], table[128])
	}
}
