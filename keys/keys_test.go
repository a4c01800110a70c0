package keys_test

import (
	"bytes"
	"cmp"
	"math"
	"slices"
	"strings"
	"testing"

	"tailrace/api"
	"tailrace/keys"
	"tailrace/value"
)

func num(n int64) api.Value { return api.Value{Kind: api.KInt, N: n} }

func text(s string) api.Value { return api.Value{Kind: api.KText, S: s} }

func row(l ...api.Value) []api.Value { return l }

func cat(l ...[]byte) []byte { return bytes.Join(l, nil) }

// numberBytes are a number's, its eight bytes told as one number.
func numberBytes(u uint64) []byte {
	return []byte{1, byte(u >> 56), byte(u >> 48), byte(u >> 40), byte(u >> 32), byte(u >> 24), byte(u >> 16), byte(u >> 8), byte(u)}
}

// risingValues are values that may be, each less than the next one.
func risingValues() []api.Value {
	l := []api.Value{
		num(-api.MaxInt), num(-api.MaxInt + 1), num(-65536), num(-257), num(-256), num(-255), num(-2), num(-1),
		num(0), num(1), num(2), num(255), num(256), num(257), num(65536), num(api.MaxInt - 1), num(api.MaxInt),
	}
	for _, s := range []string{
		"", "\x00", "\x00\x00", "\x00\x00\x00", strings.Repeat("\x00", api.MaxText), "\x00\x00\x01", "\x00\x01",
		"\x00\x02", "\x00a", "\x00\xfe", "\x00\xff", "\x00\xff\x00", "\x00\xff\x00\x00", "\x00\xff\xff", "\x01", "\x01\x00",
		"\x02", "\x02\x00\x00", "a", "a\x00", "a\x00\x00", "a\x00b", "a\x00\xff", "a\x01", "ab", "a\xff", "b", "\xfe", "\xff",
		"\xff\x00", "\xff\x00\x00", "\xff\x00\xff", "\xff\x01", "\xff\xff", strings.Repeat("\xff", api.MaxText),
	} {
		l = append(l, text(s))
	}
	return l
}

// goodRows are rows whose values may be: none, one, and two of each, and longer ones.
func goodRows() [][]api.Value {
	l := [][]api.Value{nil}
	for _, a := range risingValues() {
		l = append(l, row(a))
		for _, b := range risingValues() {
			l = append(l, row(a, b))
		}
		l = append(l, row(num(0), a, num(0)), row(text(""), a, text("")), row(num(-1), text("\x00"), a, a, a, a))
	}
	return l
}

// P2.1
func TestRowOfANumber(t *testing.T) {
	for _, c := range []struct {
		n    int64
		want []byte
	}{
		{math.MinInt64, []byte{1, 0, 0, 0, 0, 0, 0, 0, 0}},
		{math.MinInt64 + 1, []byte{1, 0, 0, 0, 0, 0, 0, 0, 1}},
		{-api.MaxInt - 1, []byte{1, 127, 255, 255, 255, 128, 0, 0, 0}},
		{-api.MaxInt, []byte{1, 127, 255, 255, 255, 128, 0, 0, 1}},
		{-256, []byte{1, 127, 255, 255, 255, 255, 255, 255, 0}},
		{-1, []byte{1, 127, 255, 255, 255, 255, 255, 255, 255}},
		{0, []byte{1, 128, 0, 0, 0, 0, 0, 0, 0}},
		{1, []byte{1, 128, 0, 0, 0, 0, 0, 0, 1}},
		{255, []byte{1, 128, 0, 0, 0, 0, 0, 0, 255}},
		{256, []byte{1, 128, 0, 0, 0, 0, 0, 1, 0}},
		{0x01020304, []byte{1, 128, 0, 0, 0, 1, 2, 3, 4}},
		{0x0102030405060708, []byte{1, 129, 2, 3, 4, 5, 6, 7, 8}},
		{api.MaxInt, []byte{1, 128, 0, 0, 0, 127, 255, 255, 255}},
		{math.MaxInt64, []byte{1, 255, 255, 255, 255, 255, 255, 255, 255}},
	} {
		if b := keys.Row(row(num(c.n))); !bytes.Equal(b, c.want) {
			t.Errorf("Row(%d): %d, not %d", c.n, b, c.want)
		}
	}
}

// P2.1: also of texts that are too long to be.
func TestRowOfAText(t *testing.T) {
	long := strings.Repeat("a", 70000)
	for _, c := range []struct {
		s    string
		want []byte
	}{
		{"", []byte{2, 0, 0}},
		{"a", []byte{2, 97, 0, 0}},
		{"ab", []byte{2, 97, 98, 0, 0}},
		{"\x00", []byte{2, 0, 255, 0, 0}},
		{"\x00\x00", []byte{2, 0, 255, 0, 255, 0, 0}},
		{"\x00a", []byte{2, 0, 255, 97, 0, 0}},
		{"a\x00", []byte{2, 97, 0, 255, 0, 0}},
		{"a\x00b", []byte{2, 97, 0, 255, 98, 0, 0}},
		{"\xff", []byte{2, 255, 0, 0}},
		{"\xff\xff", []byte{2, 255, 255, 0, 0}},
		{"\x00\xff", []byte{2, 0, 255, 255, 0, 0}},
		{"\xff\x00", []byte{2, 255, 0, 255, 0, 0}},
		{"\xff\x00\xff", []byte{2, 255, 0, 255, 255, 0, 0}},
		{"\x01\x02", []byte{2, 1, 2, 0, 0}},
		{"\xc3\xa4", []byte{2, 195, 164, 0, 0}},
		{strings.Repeat("\x00", api.MaxText), cat([]byte{2}, bytes.Repeat([]byte{0, 255}, api.MaxText), []byte{0, 0})},
		{long, cat([]byte{2}, []byte(long), []byte{0, 0})},
	} {
		if b := keys.Row(row(text(c.s))); !bytes.Equal(b, c.want) {
			t.Errorf("Row(%q): %d, not %d", c.s, b, c.want)
		}
	}
}

// P2.1: any byte but 0 stands for itself alone.
func TestRowOfEachByte(t *testing.T) {
	for c := 1; c < 256; c++ {
		if b, want := keys.Row(row(text(string([]byte{byte(c)})))), []byte{2, byte(c), 0, 0}; !bytes.Equal(b, want) {
			t.Errorf("Row of the byte %d: %d", c, b)
		}
	}
}

// P2.1
func TestRowOfAnotherKindHasNoBytes(t *testing.T) {
	for _, k := range []int{math.MinInt, -2, -1, 0, 3, 255, 257, 258, 1<<32 + 1, 1<<32 + 2, math.MaxInt} {
		v := api.Value{Kind: k, N: 5, S: "a"}
		if b := keys.Row(row(v)); len(b) != 0 {
			t.Errorf("Row of Kind %d: %d", k, b)
		}
		got, want := keys.Row(row(v, num(1), v, text("b"), v)), keys.Row(row(num(1), text("b")))
		if !bytes.Equal(got, want) {
			t.Errorf("Row of Kind %d among others: %d, not %d", k, got, want)
		}
	}
}

// P2.1: a number's text and a text's number are not written.
func TestRowTellsTheKindsOwnFieldAlone(t *testing.T) {
	if b := keys.Row(row(api.Value{Kind: api.KInt, N: 5, S: "a"})); !bytes.Equal(b, keys.Row(row(num(5)))) {
		t.Errorf("a number with a text beside it: %d", b)
	}
	if b := keys.Row(row(api.Value{Kind: api.KText, N: 5, S: "a"})); !bytes.Equal(b, keys.Row(row(text("a")))) {
		t.Errorf("a text with a number beside it: %d", b)
	}
}

// P2.1
func TestRowIsValueBehindValue(t *testing.T) {
	for _, r := range [][]api.Value{nil, {}} {
		if b := keys.Row(r); len(b) != 0 {
			t.Errorf("Row of no values: %d", b)
		}
	}
	long := slices.Repeat(risingValues(), 50)
	for _, r := range append(goodRows(), long) {
		var want []byte
		for _, v := range r {
			want = append(want, keys.Row(row(v))...)
		}
		if b := keys.Row(r); !bytes.Equal(b, want) {
			t.Errorf("Row(%v): %d, not %d", r, b, want)
		}
	}
}

// P2.2
func checkDecoded(t *testing.T, b []byte, want []api.Value) {
	t.Helper()
	if r, e := keys.Decode(b); e != api.OK || !slices.Equal(r, want) {
		t.Errorf("Decode(%d): %v, %d, not %v", b, r, e, want)
	}
}

// P2.2, R2: no values beside the error.
func checkRefused(t *testing.T, b []byte) {
	t.Helper()
	if r, e := keys.Decode(b); e != api.ErrKey || len(r) != 0 {
		t.Errorf("Decode(%d): %v, %d, not ErrKey", b, r, e)
	}
}

// P2.2
func TestDecodeIsTheRow(t *testing.T) {
	checkDecoded(t, nil, nil)
	checkDecoded(t, []byte{}, nil)
	checkDecoded(t, []byte{1, 128, 0, 0, 0, 0, 0, 0, 5}, row(num(5)))
	checkDecoded(t, []byte{1, 127, 255, 255, 255, 255, 255, 255, 254}, row(num(-2)))
	checkDecoded(t, []byte{1, 128, 0, 0, 0, 1, 2, 3, 4}, row(num(0x01020304)))
	checkDecoded(t, []byte{2, 0, 0}, row(text("")))
	checkDecoded(t, []byte{2, 97, 98, 0, 0}, row(text("ab")))
	checkDecoded(t, []byte{2, 0, 255, 0, 0}, row(text("\x00")))
	checkDecoded(t, []byte{2, 0, 255, 255, 0, 0}, row(text("\x00\xff")))
	checkDecoded(t, []byte{2, 255, 0, 255, 0, 0}, row(text("\xff\x00")))
	checkDecoded(t, []byte{2, 0, 0, 2, 0, 0}, row(text(""), text("")))
	checkDecoded(t, []byte{2, 0, 0, 1, 128, 0, 0, 0, 0, 0, 0, 0, 2, 1, 0, 0}, row(text(""), num(0), text("\x01")))
}

// P2.2: a row may have more values than a table has columns.
func TestDecodeOfManyValues(t *testing.T) {
	many := slices.Repeat(risingValues(), 100)
	checkDecoded(t, keys.Row(many), many)
}

// P2.2: numbers up to both ends of what may be, and what is beyond them.
func TestDecodeOfNumbersAtTheirEnds(t *testing.T) {
	const zero = 1 << 63
	for _, n := range []int64{-api.MaxInt, -api.MaxInt + 1, -1, 0, 1, api.MaxInt - 1, api.MaxInt} {
		checkDecoded(t, numberBytes(zero+uint64(n)), row(num(n)))
	}
	for _, u := range []uint64{
		0, 1, zero - api.MaxInt - 2, zero - api.MaxInt - 1, zero + api.MaxInt + 1, zero + api.MaxInt + 2,
		zero - 1<<32, zero + 1<<32, zero + 1<<32 + 1, 1 << 62, zero + 1<<62, math.MaxUint64,
	} {
		checkRefused(t, numberBytes(u))
		checkRefused(t, cat(keys.Row(row(text("a"))), numberBytes(u)))
		checkRefused(t, cat(numberBytes(u), keys.Row(row(text("a")))))
	}
}

// P2.2: a text's own bytes count, not those it is written with.
func TestDecodeOfTextsAtTheirEnd(t *testing.T) {
	for _, c := range []string{"a", "\x00", "\x01", "\xff"} {
		most := strings.Repeat(c, api.MaxText)
		checkDecoded(t, keys.Row(row(text(most))), row(text(most)))
		checkRefused(t, keys.Row(row(text(most+"a"))))
		checkRefused(t, keys.Row(row(text(most+"\x00"))))
		checkRefused(t, keys.Row(row(num(1), text(most+c), num(1))))
		checkRefused(t, keys.Row(row(text(strings.Repeat(c, 70000)))))
	}
}

// P2.2: bytes that end within a value are no row's; those that end behind one are.
func TestDecodeOfBytesThatEndEarly(t *testing.T) {
	for _, r := range goodRows() {
		whole := map[int]int{}
		for n := range len(r) + 1 {
			whole[len(keys.Row(r[:n]))] = n
		}
		b := keys.Row(r)
		for i := range len(b) + 1 {
			if n, is := whole[i]; is {
				checkDecoded(t, b[:i], r[:n])
			} else {
				checkRefused(t, b[:i])
			}
		}
	}
}

// P2.2: each first byte but the kinds', alone and ahead of what else would do.
func TestDecodeOfAnotherFirstByte(t *testing.T) {
	for c := range 256 {
		if c == api.KInt || c == api.KText {
			continue
		}
		for _, behind := range [][]byte{nil, {0, 0}, {97, 0, 0}, {128, 0, 0, 0, 0, 0, 0, 5}, {2, 0, 0}} {
			bad := cat([]byte{byte(c)}, behind)
			checkRefused(t, bad)
			checkRefused(t, cat(keys.Row(row(num(5))), bad))
			checkRefused(t, cat(keys.Row(row(text("a"))), bad))
			checkRefused(t, cat(keys.Row(row(num(5), text("\x00"))), bad))
		}
	}
}

// P2.2: a byte 0 with neither 255 nor 0 behind it.
func TestDecodeOfAByteZeroAndAnother(t *testing.T) {
	for c := 1; c < 255; c++ {
		checkRefused(t, []byte{2, 0, byte(c)})
		checkRefused(t, []byte{2, 0, byte(c), 0, 0})
		checkRefused(t, []byte{2, 97, 0, byte(c), 0, 0})
		checkRefused(t, []byte{2, 0, 255, 0, byte(c), 0, 0})
		checkRefused(t, []byte{2, 0, 0, 2, 0, byte(c), 0, 0})
	}
}

// lists are all lists of up to n of some bytes.
func lists(n int, of ...byte) [][]byte {
	all := [][]byte{nil}
	from := 0
	for range n {
		to := len(all)
		for _, l := range all[from:to] {
			for _, c := range of {
				all = append(all, append(bytes.Clone(l), c))
			}
		}
		from = to
	}
	return all
}

// P2.2: of all short lists of bytes just those are decoded that a row has.
func TestDecodeOfAllShortBytes(t *testing.T) {
	const most = 6
	of := []byte{0, 1, 2, 97, 254, 255}
	rows := map[string][]api.Value{"": nil}
	for _, a := range lists(most-3, of...) {
		r := row(text(string(a)))
		rows[string(keys.Row(r))] = r
	}
	two := row(text(""), text(""))
	rows[string(keys.Row(two))] = two
	for _, b := range lists(most, of...) {
		if r, is := rows[string(b)]; is {
			checkDecoded(t, b, r)
		} else {
			checkRefused(t, b)
		}
	}
}

// P2.2: whatever the bytes are, they are decoded just if they are that row's.
func FuzzDecode(f *testing.F) {
	for _, r := range goodRows()[:20] {
		f.Add(keys.Row(r))
	}
	f.Add([]byte{2, 0, 1, 0, 0})
	f.Add([]byte{1, 255, 0, 0, 0, 0, 0, 0, 0})
	f.Fuzz(func(t *testing.T, b []byte) {
		r, e := keys.Decode(b)
		if e != api.OK {
			checkRefused(t, b)
			return
		}
		if !bytes.Equal(keys.Row(r), b) || value.CheckRow(r, value.Kinds(r)) != api.OK {
			t.Errorf("Decode(%d): %v", b, r)
		}
	})
}

// P2.2, R4: texts stay as they are when the bytes change, and the bytes when the row does.
func TestDecodedRowsHaveMemoryOfTheirOwn(t *testing.T) {
	room := cat(keys.Row(row(text("abc"), num(5), text("\x00"))), []byte("spare"))
	was := bytes.Clone(room)
	b := room[: len(room)-5 : len(room)]
	r, _ := keys.Decode(b)
	again, _ := keys.Decode(b)
	if !bytes.Equal(room, was) {
		t.Errorf("Decode changed the bytes: %d", room)
	}
	for i := range room {
		room[i] = 77
	}
	want := row(text("abc"), num(5), text("\x00"))
	if !slices.Equal(r, want) {
		t.Errorf("the bytes changed the row: %v", r)
	}
	for i := range r[:cap(r)] {
		r[:cap(r)][i] = num(9)
	}
	if !slices.Equal(again, want) {
		t.Errorf("one answer changed the other: %v", again)
	}
}

// R4
func TestRowsBytesAreNewMemory(t *testing.T) {
	whole := row(num(5), text("a"), num(7))
	b, again := keys.Row(whole[:2]), keys.Row(whole[:2])
	want := bytes.Clone(again)
	for i := range b[:cap(b)] {
		b[:cap(b)][i] = 77
	}
	if !bytes.Equal(again, want) {
		t.Errorf("one answer changed the other: %d", again)
	}
	if !slices.Equal(whole, row(num(5), text("a"), num(7))) {
		t.Errorf("Row changed the row: %v", whole)
	}
}

// P2.3
func TestCmpAsTexts(t *testing.T) {
	rising := [][]byte{
		{}, {0}, {0, 0}, {0, 0, 0}, {0, 1}, {0, 255}, {1}, {1, 0}, {1, 255}, {1, 255, 255}, {2},
		[]byte("10"), []byte("9"), []byte("B"), []byte("a"), []byte("ab"), {127}, {128}, {254, 255}, {255}, {255, 0}, {255, 255},
	}
	for i, a := range rising {
		for j, b := range rising {
			if c := keys.Cmp(a, b); c != cmp.Compare(i, j) {
				t.Errorf("Cmp(%d, %d): %d", a, b, c)
			}
		}
	}
	for _, a := range lists(4, 0, 1, 127, 128, 255) {
		for _, b := range lists(3, 0, 1, 127, 128, 255) {
			if c := keys.Cmp(a, b); c != strings.Compare(string(a), string(b)) {
				t.Errorf("Cmp(%d, %d): %d", a, b, c)
			}
		}
	}
}

// P2.3, R4: nil and a list without elements are the same.
func TestCmpOfNoBytes(t *testing.T) {
	for _, a := range [][]byte{nil, {}} {
		for _, b := range [][]byte{nil, {}} {
			if c := keys.Cmp(a, b); c != 0 {
				t.Errorf("Cmp of no bytes: %d", c)
			}
		}
		if c, d := keys.Cmp(a, []byte{0}), keys.Cmp([]byte{0}, a); c != -1 || d != 1 {
			t.Errorf("Cmp of no bytes and one: %d, %d", c, d)
		}
	}
}

// P2.3
func TestNext(t *testing.T) {
	for _, c := range []struct {
		b, want []byte
		is      bool
	}{
		{[]byte{0}, []byte{1}, true},
		{[]byte{1}, []byte{2}, true},
		{[]byte{127}, []byte{128}, true},
		{[]byte{254}, []byte{255}, true},
		{[]byte{0, 0}, []byte{0, 1}, true},
		{[]byte{1, 2, 3}, []byte{1, 2, 4}, true},
		{[]byte{1, 2, 254}, []byte{1, 2, 255}, true},
		{[]byte{255, 0}, []byte{255, 1}, true},
		{[]byte{255, 254}, []byte{255, 255}, true},
		{[]byte{1, 255}, []byte{2}, true},
		{[]byte{0, 255, 255}, []byte{1}, true},
		{[]byte{254, 255, 255, 255}, []byte{255}, true},
		{[]byte{7, 255, 8}, []byte{7, 255, 9}, true},
		{[]byte{7, 255, 8, 255}, []byte{7, 255, 9}, true},
		{[]byte{255, 7, 255}, []byte{255, 8}, true},
		{nil, nil, false},
		{[]byte{}, nil, false},
		{[]byte{255}, nil, false},
		{[]byte{255, 255}, nil, false},
		{bytes.Repeat([]byte{255}, 70000), nil, false},
		{cat([]byte{3, 4}, bytes.Repeat([]byte{255}, 70000)), []byte{3, 5}, true},
	} {
		if n, is := keys.Next(c.b); !bytes.Equal(n, c.want) || is != c.is {
			t.Errorf("Next(%d): %d, %v, not %d, %v", c.b, n, is, c.want, c.is)
		}
	}
}

// R4: what is behind the bytes' end stays as it is too.
func TestNextIsNewMemory(t *testing.T) {
	for _, given := range [][]byte{{1, 2, 77, 78}, {1, 255, 77, 78}, {255, 255, 77, 78}} {
		room := bytes.Clone(given)
		n, _ := keys.Next(room[:2])
		for i := range n[:cap(n)] {
			n[:cap(n)][i] = 99
		}
		if !bytes.Equal(room, given) {
			t.Errorf("Next(%d): the bytes are %d", given[:2], room)
		}
	}
}

// P2.4
func TestRowsAreDecodedAsThemselves(t *testing.T) {
	for _, r := range goodRows() {
		checkDecoded(t, keys.Row(r), r)
	}
}

// P2.4
func TestBytesStandInTheRowsOrder(t *testing.T) {
	l := risingValues()
	for i, a := range l {
		for j, b := range l {
			if c := keys.Cmp(keys.Row(row(a)), keys.Row(row(b))); c != cmp.Compare(i, j) {
				t.Errorf("%v, %v: %d", a, b, c)
			}
		}
	}
	rows := goodRows()
	all := make([][]byte, len(rows))
	for i, r := range rows {
		all[i] = keys.Row(r)
	}
	for i, a := range rows {
		for j, b := range rows {
			if c := keys.Cmp(all[i], all[j]); c != value.CmpRow(a, b) {
				t.Fatalf("%v, %v: %d", a, b, c)
			}
		}
	}
}

// P2.4: where there is no Next nothing is behind what begins with the bytes.
func TestNextIsBehindWhatBeginsWithTheBytes(t *testing.T) {
	all := lists(5, 0, 1, 254, 255)
	for _, b := range lists(3, 0, 1, 254, 255) {
		next, is := keys.Next(b)
		for _, x := range all {
			ahead := !is || keys.Cmp(x, next) < 0
			switch {
			case bytes.HasPrefix(x, b) && !ahead:
				t.Errorf("%d begins with %d and is not ahead of %d", x, b, next)
			case !bytes.HasPrefix(x, b) && keys.Cmp(x, b) >= 0 && ahead:
				t.Errorf("%d does not begin with %d and is ahead of %d, %v", x, b, next, is)
			}
		}
	}
}

// The chapter's table of examples.
func TestExamples(t *testing.T) {
	if b := keys.Row(row(num(-1))); !bytes.Equal(b, []byte{1, 127, 255, 255, 255, 255, 255, 255, 255}) {
		t.Errorf("Row(-1): %d", b)
	}
	if b := keys.Row(row(text("a"))); !bytes.Equal(b, []byte{2, 97, 0, 0}) {
		t.Errorf("Row(`a`): %d", b)
	}
	checkRefused(t, []byte{2, 97, 0})
	checkDecoded(t, nil, nil)
	if n, is := keys.Next([]byte{1, 255}); !bytes.Equal(n, []byte{2}) || !is {
		t.Errorf("Next(1 255): %d, %v", n, is)
	}
	if n, is := keys.Next([]byte{255}); len(n) != 0 || is {
		t.Errorf("Next(255): %d, %v", n, is)
	}
}
